/- The levels of binding: comparisons. -/
import Derived.Test.YtllgodaphoncnaaGreatDoorSLev
namespace Go.Proofs.YtllgodaphoncnaaGreatDoor
open Go.RowKit

set_option maxRecDepth 100000 in
theorem rowW_two {I : RI} {w w6 w7 : World} {q : PS} {G N : Nat} {Y X2 : XV} {t t2 : Tr} {S : ByteArray} {ow : List UInt8} (hS : st ow = S) (h : RowW I w w6 q G Y t) (ht2 : TrAt (N ≤ ·) w6 t2 X2) (hN : G < N)
    (hb : Below (w6.alloc (.cells #[.string Y.o, .int .i64 Y.x.k, .int .i64 Y.x.i, .string Y.x.s, .slice Y.x.a Y.x.n Y.x.c, .string Y.w, .string Y.n, .slice Y.a Y.l Y.c, .string X2.o, .int .i64 X2.x.k, .int .i64 X2.x.i, .string X2.x.s, .slice X2.x.a X2.x.n X2.x.c, .string X2.w, .string X2.n, .slice X2.a X2.l X2.c] 27 (0, 0))).heap.size (w6.alloc (.cells #[.string Y.o, .int .i64 Y.x.k, .int .i64 Y.x.i, .string Y.x.s, .slice Y.x.a Y.x.n Y.x.c, .string Y.w, .string Y.n, .slice Y.a Y.l Y.c, .string X2.o, .int .i64 X2.x.k, .int .i64 X2.x.i, .string X2.x.s, .slice X2.x.a X2.x.n X2.x.c, .string X2.w, .string X2.n, .slice X2.a X2.l X2.c] 27 (0, 0))) w7) :
    ResX I w w7 q ∧ TrAt (w.heap.size + 1 ≤ ·) w7 (mk2 ow t t2) ⟨S, ⟨0, 0, ⟨#[]⟩, none, 0, 0⟩, ⟨#[]⟩, ⟨#[]⟩, some ⟨w6.heap.size, 0, none⟩, 2, 2⟩ := by
  subst hS
  have hb6 : Below w6.heap.size w6 (w6.alloc (.cells #[.string Y.o, .int .i64 Y.x.k, .int .i64 Y.x.i, .string Y.x.s, .slice Y.x.a Y.x.n Y.x.c, .string Y.w, .string Y.n, .slice Y.a Y.l Y.c, .string X2.o, .int .i64 X2.x.k, .int .i64 X2.x.i, .string X2.x.s, .slice X2.x.a X2.x.n X2.x.c, .string X2.w, .string X2.n, .slice X2.a X2.l X2.c] 27 (0, 0))) := (Below.refl _ _).alloc (Nat.le_refl _) _
  have hg6 : w7.heap[w6.heap.size]? = some (.cells (Y.cells ++ X2.cells).toArray 27 (0, 0)) := by
    rw [hb.block _ (by simp)]; exact heap_alloc_new _ _
  have hb7 : Below w6.heap.size w6 w7 := hb6.trans (hb.mono hb6.size)
  have hlG : G < w6.heap.size := lt_block h.at'
  have hnew := h.new
  have hw7 := h.low hb7
  exact ⟨hw7.res, trAt_two (hw7.tree.mono (fun k _ hk => hk.1)) ((ht2.low hb7).mono (fun k _ hk => by omega)) hg6 (by omega) 2⟩
set_option maxRecDepth 100000 in
set_option maxHeartbeats 1000000 in
theorem cmp_any (I : RI) (w : World) (p : PS) (h : Rd I w p) (part : PS → Tr × PS) (hpart : Reads1 I.T part) (HF : ∀ W q, Rd I W q → p.at' ≤ q.at' → Calls Tryz.prog 125 #[I.ptr] W (PostT I W (part q))) :
    Calls Tryz.prog 117 #[I.ptr] w (PostT I w (if (takesOneP I.T cmpOps (part p).2).1 = [] then part p else (mk2 (takesOneP I.T cmpOps (part p).2).1 (part p).1 (part (takesOneP I.T cmpOps (part p).2).2).1, (part (takesOneP I.T cmpOps (part p).2).2).2))) := by
  have HR0 := Lib.hid (resX_new h)
  have HLT := Lib.hid h.lt
  have H := Lib.hid h
  have hpq := (hpart p).mono
  have HF1 := Lib.hid (fun W (hr : Rd I W p) => HF W p hr (Nat.le_refl _))
  clear h
  obtain ⟨x0, hx0⟩ : ∃ x, part p = x := ⟨_, rfl⟩
  rw [hx0] at HF1 hpq ⊢
  obtain ⟨t, q⟩ := x0
  dsimp only at hpq ⊢
  have HTN := Lib.hid (fun W (hr : Rd I W q) c => takesNew_any I W q hr cmpOps 7 rfl (by omega) 9 (0, 0) #[.string ⟨#[61, 61]⟩, .string ⟨#[33, 61]⟩, .string ⟨#[60]⟩, .string ⟨#[60, 61]⟩, .string ⟨#[62]⟩, .string ⟨#[62, 61]⟩, .string ⟨#[105, 110]⟩] rfl c)
  have hoc := takesOne_cases (T := I.T) cmpOps q
  have hmo := (adv_takesOne (T := I.T) cmpOps q).mono
  obtain ⟨o, ho⟩ : ∃ o, takesOneP I.T cmpOps q = o := ⟨_, rfl⟩
  rw [ho] at HTN hoc hmo ⊢
  obtain ⟨ow, q2⟩ := o
  dsimp only at HTN hoc hmo ⊢
  have HFQ := Lib.hid (fun W (hr : Rd I W q2) => HF W q2 hr (by omega))
  generalize part q2 = R2 at *
  obtain ⟨t2, q3⟩ := R2
  have es := toList_st ow
  obtain ⟨S, hS⟩ : ∃ S, st ow = S := ⟨_, rfl⟩
  have HS := Lib.hid hS
  rw [hS] at es HTN
  unfold RI.ptr at *
  by_cases hw0 : ow = []
  · rw [if_pos hw0]
    subst hw0
    obtain rfl : q2 = q := by
      rcases hoc with ⟨hoc, -⟩ | ⟨s, hs, -, hoc⟩
      · exact (Prod.mk.inj hoc).2
      · have e := (Prod.mk.inj hoc).1
        subst e
        exact absurd hs (by decide)
    obtain rfl : S = ⟨#[]⟩ := hS.symm
    clear hS es hoc hmo ho hpq HF HFQ HS hx0
    go_enter Tryz.func117, Tryz.ntmps117
    go_wp2_with fail
    refine (HF1.out _ HR0.out.rd).mono ?_
    rintro e w1 ⟨Y, rfl, ht, h1, h2⟩
    have HR1 := Lib.hid (HR0.out.go HLT.out h1 h2)
    have HW1 := Lib.hid (rowW_new HR1.out (ht.mono (B' := fun k => w.heap.size + 1 ≤ k) (fun k _ hk => by simpa using hk)))
    clear h1 h2 ht HF1 HR0 HR1
    have HTT := Lib.hid (fun c => HTN.out _ HW1.out.res.rd c)
    simp only [World.size_alloc] at HTT
    unfold XV.v
    go_wp2_with fail
    refine (HTT.out _).mono ?_
    rintro e w2 ⟨rfl, h1, h2⟩
    have HW2 := Lib.hid (HW1.out.go HLT.out h1 h2)
    clear h1 h2 HTT HW1 HTN
    obtain ⟨y0, y1, y2, y3, y4, y5, y6, y7, -⟩ := HW2.out.cells
    obtain ⟨z0, z1, z2, z3, z4, z5, z6, z7, zf⟩ := HW2.out.res.cells
    have HFIN := Lib.hid (HW2.out.res.fin H.out (HW2.out.tree.mono (B' := fun k => w.heap.size + 1 ≤ k) (fun k _ hk => hk.1)))
    go_wp2_with fail
    exact bodyPost_ret (v := Y.v) (by simp [results, Tryz.results117, go_sem, XV.v, z0, z1, z2, z3, z4, z5, z6, z7]) rfl HFIN.out
  · rw [if_neg hw0]
    have hqq : (!ow.isEmpty) = true := by cases ow with | nil => exact absurd rfl hw0 | cons a l => rfl
    clear hS hoc hmo ho hpq HF hw0 hx0
    go_enter Tryz.func117, Tryz.ntmps117
    go_wp2_with fail
    refine (HF1.out _ HR0.out.rd).mono ?_
    rintro e w1 ⟨Y, rfl, ht, h1, h2⟩
    have HR1 := Lib.hid (HR0.out.go HLT.out h1 h2)
    have HW1 := Lib.hid (rowW_new HR1.out (ht.mono (B' := fun k => w.heap.size + 1 ≤ k) (fun k _ hk => by simpa using hk)))
    clear h1 h2 ht HF1 HR0 HR1
    have HTT := Lib.hid (fun c => HTN.out _ HW1.out.res.rd c)
    simp only [World.size_alloc] at HTT
    unfold XV.v
    go_wp2_with fail
    refine (HTT.out _).mono ?_
    rintro e w2 ⟨rfl, h1, h2⟩
    have HW2 := Lib.hid (HW1.out.go HLT.out h1 h2)
    clear h1 h2 HTT HW1 HTN
    generalize w1.heap.size = G at *
    clear w1
    go_wp2_with fail
    refine wp_region_any (by kernel_rfl) ?_
    change wpAny _ _ _ _ _ _ _ (World.drew _)
    have HW5 := Lib.hid (HW2.out.low (W' := w2.drew) (Below.refl _ _).drew)
    clear HW2
    generalize w2.drew = W5 at *
    refine wpAny_take (i := 0) (v := ?_) rfl (by kernel_rfl) (by kernel_rfl) (by kernel_rfl) (fun _ _ _ h => h) (Or.inl ⟨by rfl, ?_⟩) ?_
    rotate_left 1
    · intro w; go_simp; try with_reducible rfl
    refine wpAny_take (i := 2) (v := ?_) rfl (by kernel_rfl) (by kernel_rfl) (by kernel_rfl) (fun _ _ _ h => h) (Or.inl ⟨by rfl, ?_⟩) ?_
    rotate_left 1
    · intro w; go_simp; try with_reducible rfl
    refine wpAny_ready (rs := [1, 3]) (by kernel_rfl) (by simp) ?_
    refine AllReady.cons rfl (fun K hK => ?_) ?_
    · obtain ⟨y0, y1, y2, y3, y4, y5, y6, y7, -⟩ := HW5.out.cells
      go_simp
      refine hK _ _ ?_; clear hK K y0 y1 y2 y3 y4 y5 y6 y7
      refine wpAny_ready (rs := [3]) (by kernel_rfl) (by simp) ?_
      refine AllReady.cons rfl (fun K hK => ?_) AllReady.nil
      go_simp
      refine (HFQ.out _ HW5.out.res.rd).mono ?_
      rintro e w6 ⟨X2, rfl, ht2, h1, h2⟩
      have HS6 := Lib.hid (show W5.heap.size ≤ w6.heap.size from h2.size)
      have HW6 := Lib.hid (HW5.out.go HLT.out h1 h2)
      have HT6 := Lib.hid ht2
      clear h1 h2 ht2
      refine hK _ _ ?_; clear hK K
      refine wpAny_ready (rs := [4]) (by kernel_rfl) (by simp) ?_
      refine AllReady.cons rfl (fun K hK => ?_) AllReady.nil
      unfold XV.v
      go_simp
      refine hK _ _ ?_; clear hK K
      have hlG : G < W5.heap.size := lt_block HW5.out.at'
      have hw7 := fun w7 hb => rowW_two (S := S) (ow := ow) HS.out HW6.out HT6.out hlG hb (w7 := w7)
      have HW7 := Lib.hid hw7
      clear hw7
      refine wpAny_ready (rs := [5]) (by kernel_rfl) (by simp) ?_
      refine AllReady.cons rfl (fun K hK => ?_) AllReady.nil
      go_simp
      refine (made_any _ _ _ _ _).mono ?_
      rintro e w7 ⟨rfl, hb7⟩
      obtain ⟨hrx, htx⟩ := HW7.out w7 hb7
      have HFIN := Lib.hid (hrx.fin H.out htx)
      obtain ⟨z0, z1, z2, z3, z4, z5, z6, z7, zf⟩ := hrx.cells
      refine hK _ _ ?_; clear hK K hrx htx hb7 HW7 hlG
      unfold XV.v
      refine wpAny_ready (rs := [6]) (by kernel_rfl) (by simp) ?_
      refine AllReady.cons rfl (fun K hK => ?_) AllReady.nil
      go_simp
      refine hK _ _ ?_; clear hK K
      refine wpAny_done (by kernel_rfl) ?_ _
      go_wp2_with fail
      exact bodyPost_ret (v := XV.v ⟨S, ⟨0, 0, ⟨#[]⟩, none, 0, 0⟩, ⟨#[]⟩, ⟨#[]⟩, some ⟨w6.heap.size, 0, none⟩, 2, 2⟩) (by simp [results, Tryz.results117, go_sem, XV.v, z0, z1, z2, z3, z4, z5, z6, z7]) rfl HFIN.out
    refine AllReady.cons rfl (fun K hK => ?_) AllReady.nil
    go_simp
    refine (HFQ.out _ HW5.out.res.rd).mono ?_
    rintro e w6 ⟨X2, rfl, ht2, h1, h2⟩
    have HS6 := Lib.hid (show W5.heap.size ≤ w6.heap.size from h2.size)
    have HW6 := Lib.hid (HW5.out.go HLT.out h1 h2)
    have HT6 := Lib.hid ht2
    clear h1 h2 ht2
    refine hK _ _ ?_; clear hK K
    refine wpAny_ready (rs := [1]) (by kernel_rfl) (by simp) ?_
    refine AllReady.cons rfl (fun K hK => ?_) AllReady.nil
    obtain ⟨y0, y1, y2, y3, y4, y5, y6, y7, -⟩ := HW6.out.cells
    go_simp
    refine hK _ _ ?_; clear hK K y0 y1 y2 y3 y4 y5 y6 y7
    refine wpAny_ready (rs := [4]) (by kernel_rfl) (by simp) ?_
    refine AllReady.cons rfl (fun K hK => ?_) AllReady.nil
    unfold XV.v
    go_simp
    refine hK _ _ ?_; clear hK K
    have hlG : G < W5.heap.size := lt_block HW5.out.at'
    have hw7 := fun w7 hb => rowW_two (S := S) (ow := ow) HS.out HW6.out HT6.out hlG hb (w7 := w7)
    have HW7 := Lib.hid hw7
    clear hw7
    refine wpAny_ready (rs := [5]) (by kernel_rfl) (by simp) ?_
    refine AllReady.cons rfl (fun K hK => ?_) AllReady.nil
    go_simp
    refine (made_any _ _ _ _ _).mono ?_
    rintro e w7 ⟨rfl, hb7⟩
    obtain ⟨hrx, htx⟩ := HW7.out w7 hb7
    have HFIN := Lib.hid (hrx.fin H.out htx)
    obtain ⟨z0, z1, z2, z3, z4, z5, z6, z7, zf⟩ := hrx.cells
    refine hK _ _ ?_; clear hK K hrx htx hb7 HW7 hlG
    unfold XV.v
    refine wpAny_ready (rs := [6]) (by kernel_rfl) (by simp) ?_
    refine AllReady.cons rfl (fun K hK => ?_) AllReady.nil
    go_simp
    refine hK _ _ ?_; clear hK K
    refine wpAny_done (by kernel_rfl) ?_ _
    go_wp2_with fail
    exact bodyPost_ret (v := XV.v ⟨S, ⟨0, 0, ⟨#[]⟩, none, 0, 0⟩, ⟨#[]⟩, ⟨#[]⟩, some ⟨w6.heap.size, 0, none⟩, 2, 2⟩) (by simp [results, Tryz.results117, go_sem, XV.v, z0, z1, z2, z3, z4, z5, z6, z7]) rfl HFIN.out
end Go.Proofs.YtllgodaphoncnaaGreatDoor
