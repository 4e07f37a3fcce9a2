/- The levels of binding: rows of parts, and one op ahead. -/
import Derived.Test.YtllgodaphoncnaaGreatDoorSRow5
namespace Go.Proofs.YtllgodaphoncnaaGreatDoor
open Go.RowKit

set_option maxRecDepth 100000 in
set_option maxHeartbeats 1000000 in
theorem expr_row (I : RI) (w : World) (p : PS) (h : Rd I w p) (part : PS → Tr × PS) (hpart : Reads1 I.T part) (HF : ∀ W q, Rd I W q → p.at' ≤ q.at' → Calls Tryz.prog 61 #[I.ptr] W (PostT I W (part q))) :
    Calls Tryz.prog 40 #[I.ptr] w (PostT I w (loopP I.T part [kOr] (I.T.length + 1) (part p))) := by
  have HR0 := Lib.hid (resX_new h)
  have HLT := Lib.hid h.lt
  have H := Lib.hid h
  have hb2 : Below (w.alloc zero8).heap.size (w.alloc zero8) ((w.alloc zero8).alloc (.cells #[.string ⟨#[111, 114]⟩] 9 (0, 0))) := (Below.refl _ _).alloc (Nat.le_refl _) _
  have HR1 := Lib.hid (HR0.out.low hb2)
  have hst : StrsAt ((w.alloc zero8).alloc (.cells #[.string ⟨#[111, 114]⟩] 9 (0, 0))) (some ⟨w.heap.size + 1, 0, none⟩) (w.heap.size + 1) 0 [kOr] := strsAt_new (two_blocks _ _ _).2
  have HROW := Lib.hid (row_any I _ p HR1.out.rd 61 part hpart HF (fun W => by kernel_rfl) (some ⟨w.heap.size + 1, 0, none⟩) (w.heap.size + 1) 0 1 [kOr] hst (by decide) (by decide) (fun _ => by have := h.lt; omega))
  rw [show ([kOr] : List (List UInt8)).length = 1 from rfl] at HROW
  clear h hpart HF hst hb2
  unfold RI.ptr at *
  generalize loopP I.T part [kOr] (I.T.length + 1) (part p) = R at *
  obtain ⟨t, q⟩ := R
  go_enter Tryz.func40, Tryz.ntmps40
  go_wp2_with fail
  refine HROW.out.mono ?_
  rintro e w3 ⟨X, rfl, ht, h1, h2⟩
  have HR3 := Lib.hid (HR1.out.go HLT.out h1 h2)
  obtain ⟨z0, z1, z2, z3, z4, z5, z6, z7, zf⟩ := HR3.out.cells
  have HFIN := Lib.hid (HR3.out.fin H.out (ht.mono (B' := fun k => w.heap.size + 1 ≤ k) (fun k _ hk => by simp at hk; omega)))
  clear h1 h2 ht HROW
  unfold XV.v
  go_wp2_with fail
  exact bodyPost_ret (v := X.v) (by simp [results, Tryz.results40, go_sem, XV.v, z0, z1, z2, z3, z4, z5, z6, z7]) rfl HFIN.out
set_option maxRecDepth 100000 in
set_option maxHeartbeats 1000000 in
theorem ands_row (I : RI) (w : World) (p : PS) (h : Rd I w p) (part : PS → Tr × PS) (hpart : Reads1 I.T part) (HF : ∀ W q, Rd I W q → p.at' ≤ q.at' → Calls Tryz.prog 89 #[I.ptr] W (PostT I W (part q))) :
    Calls Tryz.prog 61 #[I.ptr] w (PostT I w (loopP I.T part [kAnd] (I.T.length + 1) (part p))) := by
  have HR0 := Lib.hid (resX_new h)
  have HLT := Lib.hid h.lt
  have H := Lib.hid h
  have hb2 : Below (w.alloc zero8).heap.size (w.alloc zero8) ((w.alloc zero8).alloc (.cells #[.string ⟨#[97, 110, 100]⟩] 9 (0, 0))) := (Below.refl _ _).alloc (Nat.le_refl _) _
  have HR1 := Lib.hid (HR0.out.low hb2)
  have hst : StrsAt ((w.alloc zero8).alloc (.cells #[.string ⟨#[97, 110, 100]⟩] 9 (0, 0))) (some ⟨w.heap.size + 1, 0, none⟩) (w.heap.size + 1) 0 [kAnd] := strsAt_new (two_blocks _ _ _).2
  have HROW := Lib.hid (row_any I _ p HR1.out.rd 89 part hpart HF (fun W => by kernel_rfl) (some ⟨w.heap.size + 1, 0, none⟩) (w.heap.size + 1) 0 1 [kAnd] hst (by decide) (by decide) (fun _ => by have := h.lt; omega))
  rw [show ([kAnd] : List (List UInt8)).length = 1 from rfl] at HROW
  clear h hpart HF hst hb2
  unfold RI.ptr at *
  generalize loopP I.T part [kAnd] (I.T.length + 1) (part p) = R at *
  obtain ⟨t, q⟩ := R
  go_enter Tryz.func61, Tryz.ntmps61
  go_wp2_with fail
  refine HROW.out.mono ?_
  rintro e w3 ⟨X, rfl, ht, h1, h2⟩
  have HR3 := Lib.hid (HR1.out.go HLT.out h1 h2)
  obtain ⟨z0, z1, z2, z3, z4, z5, z6, z7, zf⟩ := HR3.out.cells
  have HFIN := Lib.hid (HR3.out.fin H.out (ht.mono (B' := fun k => w.heap.size + 1 ≤ k) (fun k _ hk => by simp at hk; omega)))
  clear h1 h2 ht HROW
  unfold XV.v
  go_wp2_with fail
  exact bodyPost_ret (v := X.v) (by simp [results, Tryz.results61, go_sem, XV.v, z0, z1, z2, z3, z4, z5, z6, z7]) rfl HFIN.out
set_option maxRecDepth 100000 in
set_option maxHeartbeats 1000000 in
theorem sum_row (I : RI) (w : World) (p : PS) (h : Rd I w p) (part : PS → Tr × PS) (hpart : Reads1 I.T part) (HF : ∀ W q, Rd I W q → p.at' ≤ q.at' → Calls Tryz.prog 134 #[I.ptr] W (PostT I W (part q))) :
    Calls Tryz.prog 125 #[I.ptr] w (PostT I w (loopP I.T part [kPlus, kMinus] (I.T.length + 1) (part p))) := by
  have HR0 := Lib.hid (resX_new h)
  have HLT := Lib.hid h.lt
  have H := Lib.hid h
  have hb2 : Below (w.alloc zero8).heap.size (w.alloc zero8) ((w.alloc zero8).alloc (.cells #[.string ⟨#[43]⟩, .string ⟨#[45]⟩] 9 (0, 0))) := (Below.refl _ _).alloc (Nat.le_refl _) _
  have HR1 := Lib.hid (HR0.out.low hb2)
  have hst : StrsAt ((w.alloc zero8).alloc (.cells #[.string ⟨#[43]⟩, .string ⟨#[45]⟩] 9 (0, 0))) (some ⟨w.heap.size + 1, 0, none⟩) (w.heap.size + 1) 0 [kPlus, kMinus] := strsAt_new (two_blocks _ _ _).2
  have HROW := Lib.hid (row_any I _ p HR1.out.rd 134 part hpart HF (fun W => by kernel_rfl) (some ⟨w.heap.size + 1, 0, none⟩) (w.heap.size + 1) 0 2 [kPlus, kMinus] hst (by decide) (by decide) (fun _ => by have := h.lt; omega))
  rw [show ([kPlus, kMinus] : List (List UInt8)).length = 2 from rfl] at HROW
  clear h hpart HF hst hb2
  unfold RI.ptr at *
  generalize loopP I.T part [kPlus, kMinus] (I.T.length + 1) (part p) = R at *
  obtain ⟨t, q⟩ := R
  go_enter Tryz.func125, Tryz.ntmps125
  go_wp2_with fail
  refine HROW.out.mono ?_
  rintro e w3 ⟨X, rfl, ht, h1, h2⟩
  have HR3 := Lib.hid (HR1.out.go HLT.out h1 h2)
  obtain ⟨z0, z1, z2, z3, z4, z5, z6, z7, zf⟩ := HR3.out.cells
  have HFIN := Lib.hid (HR3.out.fin H.out (ht.mono (B' := fun k => w.heap.size + 1 ≤ k) (fun k _ hk => by simp at hk; omega)))
  clear h1 h2 ht HROW
  unfold XV.v
  go_wp2_with fail
  exact bodyPost_ret (v := X.v) (by simp [results, Tryz.results125, go_sem, XV.v, z0, z1, z2, z3, z4, z5, z6, z7]) rfl HFIN.out
set_option maxRecDepth 100000 in
set_option maxHeartbeats 1000000 in
theorem product_row (I : RI) (w : World) (p : PS) (h : Rd I w p) (part : PS → Tr × PS) (hpart : Reads1 I.T part) (HF : ∀ W q, Rd I W q → p.at' ≤ q.at' → Calls Tryz.prog 144 #[I.ptr] W (PostT I W (part q))) :
    Calls Tryz.prog 134 #[I.ptr] w (PostT I w (loopP I.T part [kStar] (I.T.length + 1) (part p))) := by
  have HR0 := Lib.hid (resX_new h)
  have HLT := Lib.hid h.lt
  have H := Lib.hid h
  have hb2 : Below (w.alloc zero8).heap.size (w.alloc zero8) ((w.alloc zero8).alloc (.cells #[.string ⟨#[42]⟩] 9 (0, 0))) := (Below.refl _ _).alloc (Nat.le_refl _) _
  have HR1 := Lib.hid (HR0.out.low hb2)
  have hst : StrsAt ((w.alloc zero8).alloc (.cells #[.string ⟨#[42]⟩] 9 (0, 0))) (some ⟨w.heap.size + 1, 0, none⟩) (w.heap.size + 1) 0 [kStar] := strsAt_new (two_blocks _ _ _).2
  have HROW := Lib.hid (row_any I _ p HR1.out.rd 144 part hpart HF (fun W => by kernel_rfl) (some ⟨w.heap.size + 1, 0, none⟩) (w.heap.size + 1) 0 1 [kStar] hst (by decide) (by decide) (fun _ => by have := h.lt; omega))
  rw [show ([kStar] : List (List UInt8)).length = 1 from rfl] at HROW
  clear h hpart HF hst hb2
  unfold RI.ptr at *
  generalize loopP I.T part [kStar] (I.T.length + 1) (part p) = R at *
  obtain ⟨t, q⟩ := R
  go_enter Tryz.func134, Tryz.ntmps134
  go_wp2_with fail
  refine HROW.out.mono ?_
  rintro e w3 ⟨X, rfl, ht, h1, h2⟩
  have HR3 := Lib.hid (HR1.out.go HLT.out h1 h2)
  obtain ⟨z0, z1, z2, z3, z4, z5, z6, z7, zf⟩ := HR3.out.cells
  have HFIN := Lib.hid (HR3.out.fin H.out (ht.mono (B' := fun k => w.heap.size + 1 ≤ k) (fun k _ hk => by simp at hk; omega)))
  clear h1 h2 ht HROW
  unfold XV.v
  go_wp2_with fail
  exact bodyPost_ret (v := X.v) (by simp [results, Tryz.results134, go_sem, XV.v, z0, z1, z2, z3, z4, z5, z6, z7]) rfl HFIN.out
set_option maxRecDepth 100000 in
set_option maxHeartbeats 2000000 in
theorem not_one (I : RI) (w : World) (p : PS) (h : Rd I w p) (part lower : PS → Tr × PS) (HF : isP (aheadP I.T p) kNot = true → ∀ W, Rd I W (passP p) → Calls Tryz.prog 89 #[I.ptr] W (PostT I W (part (passP p))))
    (HL : ∀ W, Rd I W p → Calls Tryz.prog 117 #[I.ptr] W (PostT I W (lower p))) :
    Calls Tryz.prog 89 #[I.ptr] w (PostT I w (if isP (aheadP I.T p) kNot then (mk1 kNot (part (passP p)).1, (part (passP p)).2) else lower p)) := by
  have HR0 := Lib.hid (resX_new h)
  have HLT := Lib.hid h.lt
  have H := Lib.hid h
  have HTK := Lib.hid (takes_any I _ p HR0.out.rd kNot)
  have HLL := Lib.hid HL
  clear h HL
  by_cases hi : isP (aheadP I.T p) kNot = true
  · rw [if_pos hi]
    have HF := Lib.hid (HF hi)
    have HTK' := HTK.out
    rw [takes_yes hi, hi] at HTK'
    have HTK := Lib.hid HTK'
    clear HTK' HLL hi
    unfold RI.ptr at *
    generalize part (passP p) = R at *
    obtain ⟨t, q⟩ := R
    try dsimp only at *
    go_enter Tryz.func89, Tryz.ntmps89
    go_wp2_with fail
    refine HTK.out.mono ?_
    rintro e w1 ⟨rfl, h1, h2⟩
    have HR1 := Lib.hid (HR0.out.go HLT.out h1 h2)
    clear h1 h2 HTK
    go_wp2_with fail
    refine (HF.out _ HR1.out.rd).mono ?_
    rintro e w2 ⟨X, rfl, ht, h1, h2⟩
    have HR2 := Lib.hid (HR1.out.go HLT.out h1 h2)
    have HT2 := Lib.hid (ht.mono (B' := fun k => w.heap.size + 1 ≤ k) (fun k _ hk => by have := lt_block HR1.out.res; omega))
    clear h1 h2 ht HF HR1
    unfold XV.v
    go_wp2_with fail
    refine (made_any _ _ _ _ _).mono ?_
    rintro e w3 ⟨rfl, hb3⟩
    have hb2 : Below w2.heap.size w2 (w2.alloc (.cells #[.string X.o, .int .i64 X.x.k, .int .i64 X.x.i, .string X.x.s, .slice X.x.a X.x.n X.x.c, .string X.w, .string X.n, .slice X.a X.l X.c] 27 (0, 0))) := (Below.refl _ _).alloc (Nat.le_refl _) _
    have hb23 := hb2.trans (hb3.mono hb2.size)
    have hg : w3.heap[w2.heap.size]? = some (.cells X.cells.toArray 27 (0, 0)) := by rw [hb3.block _ (by simp)]; exact heap_alloc_new _ _
    have HR3 := Lib.hid (HR2.out.low hb23)
    have HFIN := Lib.hid (HR3.out.fin H.out (trAt_one (op := kNot) (HT2.out.low hb23) hg (lt_block HR2.out.res) 1))
    obtain ⟨z0, z1, z2, z3, z4, z5, z6, z7, zf⟩ := HR3.out.cells
    clear hb3 hb2 hb23 hg HT2
    unfold XV.v
    go_wp2_with fail
    exact bodyPost_ret (v := XV.v ⟨⟨#[110, 111, 116]⟩, ⟨0, 0, ⟨#[]⟩, none, 0, 0⟩, ⟨#[]⟩, ⟨#[]⟩, some ⟨w2.heap.size, 0, none⟩, 1, 1⟩) (by simp [results, Tryz.results89, go_sem, XV.v, z0, z1, z2, z3, z4, z5, z6, z7]) rfl HFIN.out
  · have hi' : isP (aheadP I.T p) kNot = false := by simpa using hi
    rw [if_neg hi]
    have HTK' := HTK.out
    rw [takes_no hi', hi'] at HTK'
    have HTK := Lib.hid HTK'
    clear HTK' hi hi' HF
    unfold RI.ptr at *
    generalize lower p = R at *
    obtain ⟨t, q⟩ := R
    try dsimp only at *
    go_enter Tryz.func89, Tryz.ntmps89
    go_wp2_with fail
    refine HTK.out.mono ?_
    rintro e w1 ⟨rfl, h1, h2⟩
    have HR1 := Lib.hid (HR0.out.go HLT.out h1 h2)
    clear h1 h2 HTK
    go_wp2_with fail
    refine (HLL.out _ HR1.out.rd).mono ?_
    rintro e w2 ⟨X, rfl, ht, h1, h2⟩
    have HR2 := Lib.hid (HR1.out.go HLT.out h1 h2)
    obtain ⟨z0, z1, z2, z3, z4, z5, z6, z7, zf⟩ := HR2.out.cells
    have HFIN := Lib.hid (HR2.out.fin H.out (ht.mono (B' := fun k => w.heap.size + 1 ≤ k) (fun k _ hk => by have := lt_block HR1.out.res; omega)))
    clear h1 h2 ht HLL HR1
    unfold XV.v
    go_wp2_with fail
    exact bodyPost_ret (v := X.v) (by simp [results, Tryz.results89, go_sem, XV.v, z0, z1, z2, z3, z4, z5, z6, z7]) rfl HFIN.out
set_option maxRecDepth 100000 in
set_option maxHeartbeats 2000000 in
theorem neg_one (I : RI) (w : World) (p : PS) (h : Rd I w p) (part lower : PS → Tr × PS) (HF : isP (aheadP I.T p) kMinus = true → ∀ W, Rd I W (passP p) → Calls Tryz.prog 144 #[I.ptr] W (PostT I W (part (passP p))))
    (HL : ∀ W, Rd I W p → Calls Tryz.prog 149 #[I.ptr] W (PostT I W (lower p))) :
    Calls Tryz.prog 144 #[I.ptr] w (PostT I w (if isP (aheadP I.T p) kMinus then (mk1 kNeg (part (passP p)).1, (part (passP p)).2) else lower p)) := by
  have HR0 := Lib.hid (resX_new h)
  have HLT := Lib.hid h.lt
  have H := Lib.hid h
  have HTK := Lib.hid (takes_any I _ p HR0.out.rd kMinus)
  have HLL := Lib.hid HL
  clear h HL
  by_cases hi : isP (aheadP I.T p) kMinus = true
  · rw [if_pos hi]
    have HF := Lib.hid (HF hi)
    have HTK' := HTK.out
    rw [takes_yes hi, hi] at HTK'
    have HTK := Lib.hid HTK'
    clear HTK' HLL hi
    unfold RI.ptr at *
    generalize part (passP p) = R at *
    obtain ⟨t, q⟩ := R
    try dsimp only at *
    go_enter Tryz.func144, Tryz.ntmps144
    go_wp2_with fail
    refine HTK.out.mono ?_
    rintro e w1 ⟨rfl, h1, h2⟩
    have HR1 := Lib.hid (HR0.out.go HLT.out h1 h2)
    clear h1 h2 HTK
    go_wp2_with fail
    refine (HF.out _ HR1.out.rd).mono ?_
    rintro e w2 ⟨X, rfl, ht, h1, h2⟩
    have HR2 := Lib.hid (HR1.out.go HLT.out h1 h2)
    have HT2 := Lib.hid (ht.mono (B' := fun k => w.heap.size + 1 ≤ k) (fun k _ hk => by have := lt_block HR1.out.res; omega))
    clear h1 h2 ht HF HR1
    unfold XV.v
    go_wp2_with fail
    refine (made_any _ _ _ _ _).mono ?_
    rintro e w3 ⟨rfl, hb3⟩
    have hb2 : Below w2.heap.size w2 (w2.alloc (.cells #[.string X.o, .int .i64 X.x.k, .int .i64 X.x.i, .string X.x.s, .slice X.x.a X.x.n X.x.c, .string X.w, .string X.n, .slice X.a X.l X.c] 27 (0, 0))) := (Below.refl _ _).alloc (Nat.le_refl _) _
    have hb23 := hb2.trans (hb3.mono hb2.size)
    have hg : w3.heap[w2.heap.size]? = some (.cells X.cells.toArray 27 (0, 0)) := by rw [hb3.block _ (by simp)]; exact heap_alloc_new _ _
    have HR3 := Lib.hid (HR2.out.low hb23)
    have HFIN := Lib.hid (HR3.out.fin H.out (trAt_one (op := kNeg) (HT2.out.low hb23) hg (lt_block HR2.out.res) 1))
    obtain ⟨z0, z1, z2, z3, z4, z5, z6, z7, zf⟩ := HR3.out.cells
    clear hb3 hb2 hb23 hg HT2
    unfold XV.v
    go_wp2_with fail
    exact bodyPost_ret (v := XV.v ⟨⟨#[110, 101, 103]⟩, ⟨0, 0, ⟨#[]⟩, none, 0, 0⟩, ⟨#[]⟩, ⟨#[]⟩, some ⟨w2.heap.size, 0, none⟩, 1, 1⟩) (by simp [results, Tryz.results144, go_sem, XV.v, z0, z1, z2, z3, z4, z5, z6, z7]) rfl HFIN.out
  · have hi' : isP (aheadP I.T p) kMinus = false := by simpa using hi
    rw [if_neg hi]
    have HTK' := HTK.out
    rw [takes_no hi', hi'] at HTK'
    have HTK := Lib.hid HTK'
    clear HTK' hi hi' HF
    unfold RI.ptr at *
    generalize lower p = R at *
    obtain ⟨t, q⟩ := R
    try dsimp only at *
    go_enter Tryz.func144, Tryz.ntmps144
    go_wp2_with fail
    refine HTK.out.mono ?_
    rintro e w1 ⟨rfl, h1, h2⟩
    have HR1 := Lib.hid (HR0.out.go HLT.out h1 h2)
    clear h1 h2 HTK
    go_wp2_with fail
    refine (HLL.out _ HR1.out.rd).mono ?_
    rintro e w2 ⟨X, rfl, ht, h1, h2⟩
    have HR2 := Lib.hid (HR1.out.go HLT.out h1 h2)
    obtain ⟨z0, z1, z2, z3, z4, z5, z6, z7, zf⟩ := HR2.out.cells
    have HFIN := Lib.hid (HR2.out.fin H.out (ht.mono (B' := fun k => w.heap.size + 1 ≤ k) (fun k _ hk => by have := lt_block HR1.out.res; omega)))
    clear h1 h2 ht HLL HR1
    unfold XV.v
    go_wp2_with fail
    exact bodyPost_ret (v := X.v) (by simp [results, Tryz.results144, go_sem, XV.v, z0, z1, z2, z3, z4, z5, z6, z7]) rfl HFIN.out
end Go.Proofs.YtllgodaphoncnaaGreatDoor
