/- P3.2: a value read, a bag too. -/
import Derived.Test.YtebadbnlihbecaaCMem
namespace Go.Proofs.Ytebadbnlihbecaa
open Go.RowKit

/-- whether a value is read -/
def valOk (st : Option ByteArray) : Bool := readF st && (rawV st).2.isSome
theorem full_zero (w : World) : Full w ⟨0, 0, ⟨#[]⟩, none, 0, 0⟩ [] :=
  ⟨⟨0, 0, ⟨fun h => absurd rfl h, fun j hj => absurd hj (by simp), fun j hj => absurd hj (by simp), fun j hj => absurd hj (by simp), fun j hj => absurd hj (by simp), fun x hx => by cases hx⟩⟩, rfl, by decide, by decide⟩
theorem listAt_on {w w' : World} {ad : Option Addr} {g o : Nat} {l : List Val} (h : ListAt w ad g o l) (hk : l ≠ [] → w'.heap[g]? = w.heap[g]?) : ListAt w' ad g o l := by
  have key : ∀ j, j < l.length → ∀ q, w'.cell? ⟨g, q, none⟩ = w.cell? ⟨g, q, none⟩ := fun j hj q => World.cell?_of_block (w := w) (hk (by intro e; subst e; simp at hj))
  exact ⟨h.at', fun j hj => by rw [key j hj]; exact h.c0 j hj, fun j hj => by rw [key j hj]; exact h.c1 j hj, fun j hj => by rw [key j hj]; exact h.c2 j hj, fun j hj => by rw [key j hj]; exact h.c3 j hj, h.size⟩
theorem listAt_nil0 (w : World) (ad : Option Addr) : ListAt w ad 0 0 [] := ⟨fun h => absurd rfl h, fun j hj => absurd hj (by simp), fun j hj => absurd hj (by simp), fun j hj => absurd hj (by simp), fun j hj => absurd hj (by simp), fun x hx => by cases hx⟩
/-- a value's list lies in no such block -/
def NotIn (x : Val) (l : List Val) (b : Nat) : Prop := l ≠ [] → ∀ a, x.a = some a → a.block ≠ b
theorem full_on {w w' : World} {x : Val} {l : List Val} (h : Full w x l) {b : Nat} (hk : ∀ g, g < w.heap.size → g ≠ b → w'.heap[g]? = w.heap[g]?) (hn : NotIn x l b) : Full w' x l := by
  obtain ⟨g, o, hl⟩ := h.list
  refine ⟨⟨g, o, listAt_on hl fun hne => ?_⟩, h.len, h.size, h.most⟩
  have ha := hl.at' hne
  have hp : 0 < l.length := List.length_pos_iff.2 hne
  exact hk g (block_lt_of_cell (hl.c0 0 hp)) (hn hne _ ha)
theorem full_kept {w w' : World} {x : Val} {l : List Val} {t : Nat} (h : Full w x l) (hk : Kept1 t w w') (hn : NotIn x l t) : Full w' x l := full_on h (fun g h1 h2 => hk.block g h1 h2) hn
theorem full_set4 {w : World} {x : Val} {l : List Val} {b : Nat} (h : Full w x l) (hn : NotIn x l b) (p q r u : Value) : Full ((((w.setCell ⟨b, 0, none⟩ p).setCell ⟨b, 1, none⟩ q).setCell ⟨b, 2, none⟩ r).setCell ⟨b, 3, none⟩ u) x l :=
  full_on h (fun g _ h2 => (Below.heap_setCell _ ⟨b, 3, none⟩ u g h2).trans ((Below.heap_setCell _ ⟨b, 2, none⟩ r g h2).trans ((Below.heap_setCell _ ⟨b, 1, none⟩ q g h2).trans (Below.heap_setCell w ⟨b, 0, none⟩ p g h2)))) hn

set_option maxRecDepth 100000 in
set_option maxHeartbeats 4000000 in
theorem inValue_any (w : World) (t : Nat) (T : TypeId) (st : Option ByteArray) (h : Tape w t T st) :
    Calls Try.prog 23 #[.pointer (some ⟨t, 0, none⟩)] w fun e w' => ∃ y ly, e = .returned y.v ∧ Full w' y ly ∧ (valOk st = true → y.k = (rawV st).1.1.k ∧ y.i = (rawV st).1.1.i ∧ y.s = (rawV st).1.1.s ∧ ly = (rawV st).1.2) ∧ (valOk st = false → y = ⟨0, 0, ⟨#[]⟩, none, 0, 0⟩ ∧ ly = []) ∧ (∀ b, b < w.heap.size → NotIn y ly b) ∧ Tape w' t T (readS st) ∧ Kept1 t w w' := by
  have hlt := h.lt
  have hq := numM_lt st 1
  obtain ⟨W1, hW1⟩ : ∃ W1, w.alloc (.cells #[.int .i64 0, .int .i64 0, .string ⟨#[]⟩, .slice none 0 0] 33) = W1 := ⟨_, rfl⟩
  have hB : Below w.heap.size w W1 := by rw [← hW1]; exact (Below.refl _ _).alloc (Nat.le_refl _) _
  have hz : W1.heap[w.heap.size]? = some (.cells #[.int .i64 0, .int .i64 0, .string ⟨#[]⟩, .slice none 0 0] 33 (0, 0)) := by rw [← hW1]; exact heap_alloc_new _ _
  have U := Lib.hid (inU8_any W1 t T st (h.below hB))
  have RV : Hid (rawV st = if (numM st 1).1 = 5 then (((inPlainM (numM st 1).2 (numM st 1).1).1, (memM (inPlainM (numM st 1).2 (numM st 1).1).2).1), (memM (inPlainM (numM st 1).2 (numM st 1).1).2).2)
    else (((inPlainM (numM st 1).2 (numM st 1).1).1, []), (inPlainM (numM st 1).2 (numM st 1).1).2)) := Lib.hid rfl
  obtain ⟨⟨q, sq⟩, hqe⟩ : ∃ r, numM st 1 = r := ⟨_, rfl⟩
  rw [hqe] at U RV hq
  dsimp only at U RV hq
  have HW1 := Lib.hid hW1
  have HB1 := Lib.hid hB
  have HZ1 := Lib.hid hz
  clear hW1 hB hz h hqe
  go_enter Try.func23, Try.ntmps23
  go_wp2_with fail
  rw [HW1.out]
  refine U.out.mono ?_
  rintro e w2 ⟨rfl, ht, hk⟩
  have HZ2 := Lib.hid ((hk.block _ (lt_block HZ1.out) (by omega)).trans HZ1.out)
  have HK2 := Lib.hid (below_kept HB1.out hk)
  have P := Lib.hid (inPlain_any w2 t T sq q ht)
  have hbare := inPlainM_bare sq q
  have hsmall := inPlainM_small sq q
  obtain ⟨⟨x, sx⟩, hxe⟩ : ∃ r, inPlainM sq q = r := ⟨_, rfl⟩
  rw [hxe] at P RV hbare hsmall
  dsimp only at P RV hbare hsmall
  clear hxe ht hk U HZ1 HB1 HW1
  go_wp2_with fail
  refine P.out.mono ?_
  rintro e w3 ⟨rfl, ht, hk⟩
  have HZ3 := Lib.hid ((hk.block _ (lt_block HZ2.out) (by omega)).trans HZ2.out)
  have HK3 := Lib.hid (HK2.out.trans hk)
  have HT3 := Lib.hid ht
  clear ht hk P HZ2 HK2
  obtain ⟨xk, xi, xs, xa, xn, xc⟩ := x
  dsimp only at hbare hsmall
  obtain ⟨rfl, rfl, rfl, rfl⟩ := hbare
  unfold Val.v V
  dsimp only
  have hl3 : w.heap.size < w3.heap.size := lt_block HZ3.out
  have hl3t : t < w3.heap.size := HT3.out.lt
  cases b5 : (q : Int) == 5
  case false =>
    have hW : Below w3.heap.size w3 (w3.alloc (.cells #[.int .i64 q, .int .i64 xi, .string xs, .slice none 0 0] 33)) := (Below.refl _ _).alloc (Nat.le_refl _) _
    have hY := heap_alloc_new w3 (.cells #[.int .i64 q, .int .i64 xi, .string xs, .slice none 0 0] 33)
    go_wp2_with fail
    generalize w3.alloc _ = w6 at *
    obtain ⟨b3, hb3⟩ : ∃ b3, w3.heap.size = b3 := ⟨_, rfl⟩
    obtain ⟨y, hy⟩ : ∃ y : Val, y = ⟨q, xi, xs, none, 0, 0⟩ := ⟨_, rfl⟩
    obtain ⟨ly, hly⟩ : ∃ ly : List Val, ly = [] := ⟨_, rfl⟩
    have hraw : rawV st = ((⟨q, xi, xs, none, 0, 0⟩, []), sx) := by rw [RV.out, if_neg (by intro e; subst e; simp at b5)]
    obtain ⟨f, hf⟩ : ∃ f, y.formed ly = f := ⟨_, rfl⟩
    obtain ⟨sv, hsv⟩ : ∃ sv, sx = sv := ⟨_, rfl⟩
    have hrf : readF st = f := by rw [← hf, readF, hraw, hy, hly]; rfl
    have HOK : Hid (valOk st = (f && sv.isSome)) := Lib.hid (by rw [valOk, hrf, hraw, hsv])
    have HSV : Hid ((if f then sv else none) = readS st) := Lib.hid (by rw [readS, hrf, hraw, hsv])
    have HYE : Hid (y.k = (rawV st).1.1.k ∧ y.i = (rawV st).1.1.i ∧ y.s = (rawV st).1.1.s ∧ ly = (rawV st).1.2) := Lib.hid (by rw [hraw, hy, hly]; exact ⟨rfl, rfl, rfl, rfl⟩)
    have HFE := Lib.hid hf
    have HNE : Hid (NotIn y ly t) := Lib.hid (by intro hne; exact absurd hly hne)
    have HNZ : Hid (NotIn y ly w.heap.size) := Lib.hid (by intro hne; exact absurd hly hne)
    have HNA : Hid (∀ b, b < w.heap.size → NotIn y ly b) := Lib.hid (fun _ _ hne => absurd hly hne)
    have HFL : Hid (Full w6 y ly) := Lib.hid (by rw [hy, hly]; exact ⟨⟨0, 0, listAt_nil0 _ _⟩, rfl, hsmall, Nat.zero_le _⟩)
    have HT6 : Hid (Tape w6 t T sv) := Lib.hid (by rw [← hsv]; exact HT3.out.below hW)
    have HK6 : Hid (Kept1 t w w6) := Lib.hid (HK3.out.trans (Kept1.of_below hW))
    have HZ := Lib.hid ((hW.block _ hl3).trans HZ3.out)
    have HY : Hid (w6.heap[b3]? = some (.cells #[.int .i64 y.k, .int .i64 y.i, .string y.s, .slice y.a y.n y.c] 33 (0, 0))) := Lib.hid (by rw [← hb3, hy]; exact hY)
    rw [hb3]
    have hb3t : t < b3 := by omega
    have hb3w : w.heap.size < b3 := by omega
    clear hW hY hraw hf hrf hsv hy hly hb3 HT3 HK3 HZ3 RV hl3 hl3t
    have F : Hid (∀ m : Bl w6, Calls Try.prog 44 #[.agg #[.int .i64 y.k, .int .i64 y.i, .string y.s, .slice y.a y.n y.c]] m.wr fun e w' => e = .returned (.bool f) ∧ Below m.wr.heap.size m.wr w') := Lib.hid (fun m => by
      rw [← HFE.out]
      exact formed_any m.wr y ly (HFL.out.below m.below))
    have p0 := fun m : Bl w6 => (cells4 HY.out m).1
    have p1 := fun m : Bl w6 => (cells4 HY.out m).2.1
    have p2 := fun m : Bl w6 => (cells4 HY.out m).2.2.1
    have p3 := fun m : Bl w6 => (cells4 HY.out m).2.2.2
    have hb36 : b3 < w6.heap.size := lt_block HY.out
    have ht6 : t < w6.heap.size := HT6.out.lt
    refine wp_region_quiet_tailB 5 (by kernel_rfl) (by kernel_rfl) ?_
    simp only [List.take_succ_cons, List.take_zero, List.drop_succ_cons, List.drop_zero]
    iterate 5 (go_big_quiet_step ((go_at_call 44; with_reducible exact Calls.quiet_b (F.out _))))
    refine wpQuiet_nil ?_
    intro m
    have HT7 := Lib.hid (HT6.out.below m.below)
    have HK7 := Lib.hid (HK6.out.trans (Kept1.of_below m.below))
    have HY7 := Lib.hid ((m.below.block _ (lt_block HY.out)).trans HY.out)
    have HZ7 := Lib.hid ((m.below.block _ (lt_block HZ.out)).trans HZ.out)
    have HFL7 := Lib.hid (HFL.out.below m.below)
    clear p0 p1 p2 p3 F HT6 HK6 HY HZ HFL hb36 ht6
    generalize m.wr = w7 at *
    clear m
    have M := Lib.hid (must_any w7 t T sv f HT7.out)
    go_wp2_with fail
    refine M.out.mono ?_
    rintro e w8 ⟨rfl, ht, hk⟩
    have hy8 := (hk.block _ (lt_block HY7.out) (by omega)).trans HY7.out
    have hz8 := (hk.block _ (lt_block HZ7.out) (by omega)).trans HZ7.out
    have HFL8 : Hid (Full w8 y ly) := Lib.hid (full_kept HFL7.out hk HNE.out)
    have HT8 := Lib.hid ht
    have HK8 := Lib.hid (HK7.out.trans hk)
    obtain ⟨y0, y1, y2, y3⟩ := cells4 hy8 ⟨w8, Below.refl _ _⟩
    obtain ⟨z0, z1, z2, z3⟩ := cells4 hz8 ⟨w8, Below.refl _ _⟩
    dsimp only at y0 y1 y2 y3 z0 z1 z2 z3
    have zf : ∀ o, w8.frozen? ⟨w.heap.size, o, none⟩ = false := fun o => by simp [World.frozen?, hz8]
    have hl8 : w.heap.size < w8.heap.size := lt_block hz8
    have hl83 : b3 < w8.heap.size := lt_block hy8
    clear ht hk hy8 hz8 M HT7 HK7 HY7 HZ7 HFL7
    have HO : Hid (∀ g : Bool, (f && sv.isSome) = g → valOk st = g) := Lib.hid (fun g hg => by rw [← hg]; exact HOK.out)
    obtain ⟨gd, hgd⟩ : ∃ gd, (f && sv.isSome) = gd := ⟨_, rfl⟩
    have HGD := Lib.hid hgd
    rw [hgd]
    clear hgd
    cases gd
    · go_wp2_with fail
      refine bodyPost_ret (v := (⟨0, 0, ⟨#[]⟩, none, 0, 0⟩ : Val).v) (by simp [results, Try.results23, go_sem, z0, z1, z2, z3, Val.v, V]) rfl ?_
      exact ⟨_, [], rfl, full_zero _, (fun h => absurd ((HO.out _ HGD.out).symm.trans h) Bool.false_ne_true), (fun _ => ⟨rfl, rfl⟩), (fun _ _ hne => absurd rfl hne), by rw [← HSV.out]; exact HT8.out.set4 w.heap.size (by omega) _ _ _ _, HK8.out.set4 w.heap.size (Nat.le_refl _) _ _ _ _⟩
    · go_wp2_with fail
      refine bodyPost_ret (v := y.v) (by simp [results, Try.results23, go_sem, z0, z1, z2, z3, Val.v, V]) rfl ?_
      exact ⟨y, ly, rfl, full_set4 HFL8.out HNZ.out _ _ _ _, (fun _ => HYE.out), (fun h => absurd ((HO.out _ HGD.out).symm.trans h).symm Bool.false_ne_true), HNA.out, by rw [← HSV.out]; exact HT8.out.set4 w.heap.size (by omega) _ _ _ _, HK8.out.set4 w.heap.size (Nat.le_refl _) _ _ _ _⟩
  case true =>
    have hW : Below w3.heap.size w3 (w3.alloc (.cells #[.int .i64 q, .int .i64 xi, .string xs, .slice none 0 0] 33)) := (Below.refl _ _).alloc (Nat.le_refl _) _
    have hY := heap_alloc_new w3 (.cells #[.int .i64 q, .int .i64 xi, .string xs, .slice none 0 0] 33)
    go_wp2_with fail
    generalize w3.alloc _ = w4 at *
    have MM := Lib.hid (members_any w4 t T sx (HT3.out.below hW))
    refine MM.out.mono ?_
    rintro e w5 ⟨v, rfl, hm⟩
    obtain ⟨va, vg, vc, rfl, hla, hvg⟩ := own_list hm.own.row (memM_small sx)
    have hsz4 : w3.heap.size < w4.heap.size := lt_block hY
    have hY5 := (hm.kept.block _ (lt_block hY) (by omega)).trans hY
    have hZ5 := (hm.kept.block _ (by omega) (by omega)).trans ((hW.block _ hl3).trans HZ3.out)
    have hK5 : Kept1 t w w5 := HK3.out.trans ((Kept1.of_below hW).trans hm.kept)
    have hT5 := hm.tape
    obtain ⟨b3, hb3⟩ : ∃ b3, w3.heap.size = b3 := ⟨_, rfl⟩
    rw [hb3] at hY5
    have v3 := (cells4 hY5 ⟨w5, Below.refl _ _⟩).2.2.2
    dsimp only at v3
    have vf : ∀ o, w5.frozen? ⟨b3, o, none⟩ = false := fun o => by simp [World.frozen?, hY5]
    have hl5 : b3 < w5.heap.size := lt_block hY5
    rw [hb3]
    have hraw : rawV st = ((⟨q, xi, xs, none, 0, 0⟩, (memM sx).1), (memM sx).2) := by rw [RV.out, if_pos (Int.ofNat.inj (show (q : Int) = (5 : Nat) by simpa using b5))]
    have h16 := memM_length sx
    have HLA := Lib.hid hla
    have HVG := Lib.hid hvg
    have HY5 := Lib.hid hY5
    have HZ5 := Lib.hid hZ5
    have HK5 := Lib.hid hK5
    have HT5 := Lib.hid hT5
    have HRAW := Lib.hid hraw
    have hb3t : t < b3 := by omega
    have hb3w : w.heap.size < b3 := by omega
    have hb34 : b3 < w4.heap.size := by omega
    clear hm MM hla hvg hY5 hZ5 hK5 hT5 hraw HT3 HK3 HZ3 RV hl3 hl3t hW hY hsz4 hb3
    generalize memM sx = mm at *
    obtain ⟨ly, sv⟩ := mm
    dsimp only at HLA HVG HT5 HRAW h16 v3
    go_wp2_with fail
    obtain ⟨y, hy⟩ : ∃ y : Val, y = ⟨q, xi, xs, va, ly.length, vc⟩ := ⟨_, rfl⟩
    obtain ⟨f, hf⟩ : ∃ f, y.formed ly = f := ⟨_, rfl⟩
    have hrf : readF st = f := by rw [← hf, readF, HRAW.out, hy]; rfl
    have HOK : Hid (valOk st = (f && sv.isSome)) := Lib.hid (by rw [valOk, hrf, HRAW.out])
    have HSV : Hid ((if f then sv else none) = readS st) := Lib.hid (by rw [readS, hrf, HRAW.out])
    have HYE : Hid (y.k = (rawV st).1.1.k ∧ y.i = (rawV st).1.1.i ∧ y.s = (rawV st).1.1.s ∧ ly = (rawV st).1.2) := Lib.hid (by rw [HRAW.out, hy]; exact ⟨rfl, rfl, rfl, rfl⟩)
    have HFE := Lib.hid hf
    have hne3 : ∀ b, b < w4.heap.size → NotIn y ly b := fun b hb hne a ha => by
      have h1 := HLA.out.at' hne
      have h2 := HVG.out hne
      rw [hy] at ha
      dsimp only at ha
      rw [h1] at ha
      injection ha with ha
      rw [← ha]
      show vg ≠ b
      omega
    have HNE : Hid (NotIn y ly t) := Lib.hid (hne3 t (by omega))
    have HNZ : Hid (NotIn y ly w.heap.size) := Lib.hid (hne3 _ (by omega))
    have HNA : Hid (∀ b, b < w.heap.size → NotIn y ly b) := Lib.hid (fun b hb => hne3 b (by omega))
    have HY : Hid ((w5.setCell ⟨b3, 3, none⟩ (.slice va ly.length vc)).heap[b3]? = some (.cells #[.int .i64 y.k, .int .i64 y.i, .string y.s, .slice y.a y.n y.c] 33 (0, 0))) := Lib.hid (by rw [heap_setCell_same _ _ _ _ _ _ HY5.out, hy]; rfl)
    have HZ := Lib.hid ((Below.heap_setCell w5 ⟨b3, 3, none⟩ (.slice va ly.length vc) w.heap.size (by show w.heap.size ≠ b3; omega)).trans HZ5.out)
    have HT6 : Hid (Tape (w5.setCell ⟨b3, 3, none⟩ (.slice va ly.length vc)) t T sv) := Lib.hid (HT5.out.set1 b3 3 (by omega) _)
    have HK6 : Hid (Kept1 t w (w5.setCell ⟨b3, 3, none⟩ (.slice va ly.length vc))) := Lib.hid (HK5.out.setCell ⟨b3, 3, none⟩ (.inr (by show w.heap.size ≤ b3; omega)) _)
    have HFL : Hid (Full (w5.setCell ⟨b3, 3, none⟩ (.slice va ly.length vc)) y ly) := Lib.hid (full_on (w := w5) (b := b3) (by rw [hy]; exact ⟨⟨vg, 0, HLA.out⟩, rfl, hsmall, by show ly.length ≤ maxLen; unfold maxLen; omega⟩) (fun g _ h2 => Below.heap_setCell _ _ _ _ h2) (hne3 b3 hb34))
    generalize w5.setCell _ _ = w6 at *
    clear HLA HVG HY5 HZ5 HK5 HT5 HRAW hf hrf hy hne3 v3 vf hl5 hb34
    have F : Hid (∀ m : Bl w6, Calls Try.prog 44 #[.agg #[.int .i64 y.k, .int .i64 y.i, .string y.s, .slice y.a y.n y.c]] m.wr fun e w' => e = .returned (.bool f) ∧ Below m.wr.heap.size m.wr w') := Lib.hid (fun m => by
      rw [← HFE.out]
      exact formed_any m.wr y ly (HFL.out.below m.below))
    have p0 := fun m : Bl w6 => (cells4 HY.out m).1
    have p1 := fun m : Bl w6 => (cells4 HY.out m).2.1
    have p2 := fun m : Bl w6 => (cells4 HY.out m).2.2.1
    have p3 := fun m : Bl w6 => (cells4 HY.out m).2.2.2
    have hb36 : b3 < w6.heap.size := lt_block HY.out
    have ht6 : t < w6.heap.size := HT6.out.lt
    refine wp_region_quiet_tailB 5 (by kernel_rfl) (by kernel_rfl) ?_
    simp only [List.take_succ_cons, List.take_zero, List.drop_succ_cons, List.drop_zero]
    iterate 5 (go_big_quiet_step ((go_at_call 44; with_reducible exact Calls.quiet_b (F.out _))))
    refine wpQuiet_nil ?_
    intro m
    have HT7 := Lib.hid (HT6.out.below m.below)
    have HK7 := Lib.hid (HK6.out.trans (Kept1.of_below m.below))
    have HY7 := Lib.hid ((m.below.block _ (lt_block HY.out)).trans HY.out)
    have HZ7 := Lib.hid ((m.below.block _ (lt_block HZ.out)).trans HZ.out)
    have HFL7 := Lib.hid (HFL.out.below m.below)
    clear p0 p1 p2 p3 F HT6 HK6 HY HZ HFL hb36 ht6
    generalize m.wr = w7 at *
    clear m
    have M := Lib.hid (must_any w7 t T sv f HT7.out)
    go_wp2_with fail
    refine M.out.mono ?_
    rintro e w8 ⟨rfl, ht, hk⟩
    have hy8 := (hk.block _ (lt_block HY7.out) (by omega)).trans HY7.out
    have hz8 := (hk.block _ (lt_block HZ7.out) (by omega)).trans HZ7.out
    have HFL8 : Hid (Full w8 y ly) := Lib.hid (full_kept HFL7.out hk HNE.out)
    have HT8 := Lib.hid ht
    have HK8 := Lib.hid (HK7.out.trans hk)
    obtain ⟨y0, y1, y2, y3⟩ := cells4 hy8 ⟨w8, Below.refl _ _⟩
    obtain ⟨z0, z1, z2, z3⟩ := cells4 hz8 ⟨w8, Below.refl _ _⟩
    dsimp only at y0 y1 y2 y3 z0 z1 z2 z3
    have zf : ∀ o, w8.frozen? ⟨w.heap.size, o, none⟩ = false := fun o => by simp [World.frozen?, hz8]
    have hl8 : w.heap.size < w8.heap.size := lt_block hz8
    have hl83 : b3 < w8.heap.size := lt_block hy8
    clear ht hk hy8 hz8 M HT7 HK7 HY7 HZ7 HFL7
    have HO : Hid (∀ g : Bool, (f && sv.isSome) = g → valOk st = g) := Lib.hid (fun g hg => by rw [← hg]; exact HOK.out)
    obtain ⟨gd, hgd⟩ : ∃ gd, (f && sv.isSome) = gd := ⟨_, rfl⟩
    have HGD := Lib.hid hgd
    rw [hgd]
    clear hgd
    cases gd
    · go_wp2_with fail
      refine bodyPost_ret (v := (⟨0, 0, ⟨#[]⟩, none, 0, 0⟩ : Val).v) (by simp [results, Try.results23, go_sem, z0, z1, z2, z3, Val.v, V]) rfl ?_
      exact ⟨_, [], rfl, full_zero _, (fun h => absurd ((HO.out _ HGD.out).symm.trans h) Bool.false_ne_true), (fun _ => ⟨rfl, rfl⟩), (fun _ _ hne => absurd rfl hne), by rw [← HSV.out]; exact HT8.out.set4 w.heap.size (by omega) _ _ _ _, HK8.out.set4 w.heap.size (Nat.le_refl _) _ _ _ _⟩
    · go_wp2_with fail
      refine bodyPost_ret (v := y.v) (by simp [results, Try.results23, go_sem, z0, z1, z2, z3, Val.v, V]) rfl ?_
      exact ⟨y, ly, rfl, full_set4 HFL8.out HNZ.out _ _ _ _, (fun _ => HYE.out), (fun h => absurd ((HO.out _ HGD.out).symm.trans h).symm Bool.false_ne_true), HNA.out, by rw [← HSV.out]; exact HT8.out.set4 w.heap.size (by omega) _ _ _ _, HK8.out.set4 w.heap.size (Nat.le_refl _) _ _ _ _⟩
end Go.Proofs.Ytebadbnlihbecaa
