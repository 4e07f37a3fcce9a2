/- The levels of binding: rows of parts, and one op ahead; The levels of binding: comparisons. -/
import Derived.Test.YtllgodaphoncnaaGreatDoorSRow5
namespace Go.Proofs.YtllgodaphoncnaaGreatDoor
open Go.RowKit

set_option maxRecDepth 100000 in
set_option maxHeartbeats 1000000 in
theorem expr_row (I : RI) (w : World) (p : PS) (h : Rd I w p) (part : PS → Tr × PS) (hpart : Reads1 I.T part) (HF : ∀ W q, Rd I W q → p.at' ≤ q.at' → Calls Tryz.prog 61 #[I.ptr] W (PostT I W (part q))) :
    Calls Tryz.prog 40 #[I.ptr] w (PostT I w (loopP I.T part [kOr] (I.T.length + 1) (part p))) := by
  have HR0 := Lib.hid (resX_new h)
  have HLT := Lib.hid h.lt
  have H := Lib.hid h
  have hb2 : Below (w.alloc zero8).heap.size (w.alloc zero8) ((w.alloc zero8).alloc (.cells #[.string ⟨#[111, 114]⟩] 9 (0, 0))) := (Below.refl _ _).alloc (Nat.le_refl _) _
  have HR1 := Lib.hid (HR0.out.low hb2)
  have hst : StrsAt ((w.alloc zero8).alloc (.cells #[.string ⟨#[111, 114]⟩] 9 (0, 0))) (some ⟨w.heap.size + 1, 0, none⟩) (w.heap.size + 1) 0 [kOr] := strsAt_new (two_blocks _ _ _).2
  have HROW := Lib.hid (row_any I _ p HR1.out.rd 61 part hpart HF (fun W => by kernel_rfl) (some ⟨w.heap.size + 1, 0, none⟩) (w.heap.size + 1) 0 1 [kOr] hst (by decide) (by decide) (fun _ => by have := h.lt; omega))
  rw [show ([kOr] : List (List UInt8)).length = 1 from rfl] at HROW
  clear h hpart HF hst hb2
  unfold RI.ptr at *
  generalize loopP I.T part [kOr] (I.T.length + 1) (part p) = R at *
  obtain ⟨t, q⟩ := R
  go_enter Tryz.func40, Tryz.ntmps40
  go_wp2_with fail
  refine HROW.out.mono ?_
  rintro e w3 ⟨X, rfl, ht, h1, h2⟩
  have HR3 := Lib.hid (HR1.out.go HLT.out h1 h2)
  obtain ⟨z0, z1, z2, z3, z4, z5, z6, z7, zf⟩ := HR3.out.cells
  have HFIN := Lib.hid (HR3.out.fin H.out (ht.mono (B' := fun k => w.heap.size + 1 ≤ k) (fun k _ hk => by simp at hk; omega)))
  clear h1 h2 ht HROW
  unfold XV.v
  go_wp2_with fail
  exact bodyPost_ret (v := X.v) (by simp [results, Tryz.results40, go_sem, XV.v, z0, z1, z2, z3, z4, z5, z6, z7]) rfl HFIN.out
set_option maxRecDepth 100000 in
set_option maxHeartbeats 1000000 in
theorem ands_row (I : RI) (w : World) (p : PS) (h : Rd I w p) (part : PS → Tr × PS) (hpart : Reads1 I.T part) (HF : ∀ W q, Rd I W q → p.at' ≤ q.at' → Calls Tryz.prog 89 #[I.ptr] W (PostT I W (part q))) :
    Calls Tryz.prog 61 #[I.ptr] w (PostT I w (loopP I.T part [kAnd] (I.T.length + 1) (part p))) := by
  have HR0 := Lib.hid (resX_new h)
  have HLT := Lib.hid h.lt
  have H := Lib.hid h
  have hb2 : Below (w.alloc zero8).heap.size (w.alloc zero8) ((w.alloc zero8).alloc (.cells #[.string ⟨#[97, 110, 100]⟩] 9 (0, 0))) := (Below.refl _ _).alloc (Nat.le_refl _) _
  have HR1 := Lib.hid (HR0.out.low hb2)
  have hst : StrsAt ((w.alloc zero8).alloc (.cells #[.string ⟨#[97, 110, 100]⟩] 9 (0, 0))) (some ⟨w.heap.size + 1, 0, none⟩) (w.heap.size + 1) 0 [kAnd] := strsAt_new (two_blocks _ _ _).2
  have HROW := Lib.hid (row_any I _ p HR1.out.rd 89 part hpart HF (fun W => by kernel_rfl) (some ⟨w.heap.size + 1, 0, none⟩) (w.heap.size + 1) 0 1 [kAnd] hst (by decide) (by decide) (fun _ => by have := h.lt; omega))
  rw [show ([kAnd] : List (List UInt8)).length = 1 from rfl] at HROW
  clear h hpart HF hst hb2
  unfold RI.ptr at *
  generalize loopP I.T part [kAnd] (I.T.length + 1) (part p) = R at *
  obtain ⟨t, q⟩ := R
  go_enter Tryz.func61, Tryz.ntmps61
  go_wp2_with fail
  refine HROW.out.mono ?_
  rintro e w3 ⟨X, rfl, ht, h1, h2⟩
  have HR3 := Lib.hid (HR1.out.go HLT.out h1 h2)
  obtain ⟨z0, z1, z2, z3, z4, z5, z6, z7, zf⟩ := HR3.out.cells
  have HFIN := Lib.hid (HR3.out.fin H.out (ht.mono (B' := fun k => w.heap.size + 1 ≤ k) (fun k _ hk => by simp at hk; omega)))
  clear h1 h2 ht HROW
  unfold XV.v
  go_wp2_with fail
  exact bodyPost_ret (v := X.v) (by simp [results, Tryz.results61, go_sem, XV.v, z0, z1, z2, z3, z4, z5, z6, z7]) rfl HFIN.out
set_option maxRecDepth 100000 in
set_option maxHeartbeats 1000000 in
theorem sum_row (I : RI) (w : World) (p : PS) (h : Rd I w p) (part : PS → Tr × PS) (hpart : Reads1 I.T part) (HF : ∀ W q, Rd I W q → p.at' ≤ q.at' → Calls Tryz.prog 134 #[I.ptr] W (PostT I W (part q))) :
    Calls Tryz.prog 125 #[I.ptr] w (PostT I w (loopP I.T part [kPlus, kMinus] (I.T.length + 1) (part p))) := by
  have HR0 := Lib.hid (resX_new h)
  have HLT := Lib.hid h.lt
  have H := Lib.hid h
  have hb2 : Below (w.alloc zero8).heap.size (w.alloc zero8) ((w.alloc zero8).alloc (.cells #[.string ⟨#[43]⟩, .string ⟨#[45]⟩] 9 (0, 0))) := (Below.refl _ _).alloc (Nat.le_refl _) _
  have HR1 := Lib.hid (HR0.out.low hb2)
  have hst : StrsAt ((w.alloc zero8).alloc (.cells #[.string ⟨#[43]⟩, .string ⟨#[45]⟩] 9 (0, 0))) (some ⟨w.heap.size + 1, 0, none⟩) (w.heap.size + 1) 0 [kPlus, kMinus] := strsAt_new (two_blocks _ _ _).2
  have HROW := Lib.hid (row_any I _ p HR1.out.rd 134 part hpart HF (fun W => by kernel_rfl) (some ⟨w.heap.size + 1, 0, none⟩) (w.heap.size + 1) 0 2 [kPlus, kMinus] hst (by decide) (by decide) (fun _ => by have := h.lt; omega))
  rw [show ([kPlus, kMinus] : List (List UInt8)).length = 2 from rfl] at HROW
  clear h hpart HF hst hb2
  unfold RI.ptr at *
  generalize loopP I.T part [kPlus, kMinus] (I.T.length + 1) (part p) = R at *
  obtain ⟨t, q⟩ := R
  go_enter Tryz.func125, Tryz.ntmps125
  go_wp2_with fail
  refine HROW.out.mono ?_
  rintro e w3 ⟨X, rfl, ht, h1, h2⟩
  have HR3 := Lib.hid (HR1.out.go HLT.out h1 h2)
  obtain ⟨z0, z1, z2, z3, z4, z5, z6, z7, zf⟩ := HR3.out.cells
  have HFIN := Lib.hid (HR3.out.fin H.out (ht.mono (B' := fun k => w.heap.size + 1 ≤ k) (fun k _ hk => by simp at hk; omega)))
  clear h1 h2 ht HROW
  unfold XV.v
  go_wp2_with fail
  exact bodyPost_ret (v := X.v) (by simp [results, Tryz.results125, go_sem, XV.v, z0, z1, z2, z3, z4, z5, z6, z7]) rfl HFIN.out
set_option maxRecDepth 100000 in
set_option maxHeartbeats 1000000 in
theorem product_row (I : RI) (w : World) (p : PS) (h : Rd I w p) (part : PS → Tr × PS) (hpart : Reads1 I.T part) (HF : ∀ W q, Rd I W q → p.at' ≤ q.at' → Calls Tryz.prog 144 #[I.ptr] W (PostT I W (part q))) :
    Calls Tryz.prog 134 #[I.ptr] w (PostT I w (loopP I.T part [kStar] (I.T.length + 1) (part p))) := by
  have HR0 := Lib.hid (resX_new h)
  have HLT := Lib.hid h.lt
  have H := Lib.hid h
  have hb2 : Below (w.alloc zero8).heap.size (w.alloc zero8) ((w.alloc zero8).alloc (.cells #[.string ⟨#[42]⟩] 9 (0, 0))) := (Below.refl _ _).alloc (Nat.le_refl _) _
  have HR1 := Lib.hid (HR0.out.low hb2)
  have hst : StrsAt ((w.alloc zero8).alloc (.cells #[.string ⟨#[42]⟩] 9 (0, 0))) (some ⟨w.heap.size + 1, 0, none⟩) (w.heap.size + 1) 0 [kStar] := strsAt_new (two_blocks _ _ _).2
  have HROW := Lib.hid (row_any I _ p HR1.out.rd 144 part hpart HF (fun W => by kernel_rfl) (some ⟨w.heap.size + 1, 0, none⟩) (w.heap.size + 1) 0 1 [kStar] hst (by decide) (by decide) (fun _ => by have := h.lt; omega))
  rw [show ([kStar] : List (List UInt8)).length = 1 from rfl] at HROW
  clear h hpart HF hst hb2
  unfold RI.ptr at *
  generalize loopP I.T part [kStar] (I.T.length + 1) (part p) = R at *
  obtain ⟨t, q⟩ := R
  go_enter Tryz.func134, Tryz.ntmps134
  go_wp2_with fail
  refine HROW.out.mono ?_
  rintro e w3 ⟨X, rfl, ht, h1, h2⟩
  have HR3 := Lib.hid (HR1.out.go HLT.out h1 h2)
  obtain ⟨z0, z1, z2, z3, z4, z5, z6, z7, zf⟩ := HR3.out.cells
  have HFIN := Lib.hid (HR3.out.fin H.out (ht.mono (B' := fun k => w.heap.size + 1 ≤ k) (fun k _ hk => by simp at hk; omega)))
  clear h1 h2 ht HROW
  unfold XV.v
  go_wp2_with fail
  exact bodyPost_ret (v := X.v) (by simp [results, Tryz.results134, go_sem, XV.v, z0, z1, z2, z3, z4, z5, z6, z7]) rfl HFIN.out
set_option maxRecDepth 100000 in
set_option maxHeartbeats 2000000 in
theorem not_one (I : RI) (w : World) (p : PS) (h : Rd I w p) (part lower : PS → Tr × PS) (HF : isP (aheadP I.T p) kNot = true → ∀ W, Rd I W (passP p) → Calls Tryz.prog 89 #[I.ptr] W (PostT I W (part (passP p))))
    (HL : ∀ W, Rd I W p → Calls Tryz.prog 117 #[I.ptr] W (PostT I W (lower p))) :
    Calls Tryz.prog 89 #[I.ptr] w (PostT I w (if isP (aheadP I.T p) kNot then (mk1 kNot (part (passP p)).1, (part (passP p)).2) else lower p)) := by
  have HR0 := Lib.hid (resX_new h)
  have HLT := Lib.hid h.lt
  have H := Lib.hid h
  have HTK := Lib.hid (takes_any I _ p HR0.out.rd kNot)
  have HLL := Lib.hid HL
  clear h HL
  by_cases hi : isP (aheadP I.T p) kNot = true
  · rw [if_pos hi]
    have HF := Lib.hid (HF hi)
    have HTK' := HTK.out
    rw [takes_yes hi, hi] at HTK'
    have HTK := Lib.hid HTK'
    clear HTK' HLL hi
    unfold RI.ptr at *
    generalize part (passP p) = R at *
    obtain ⟨t, q⟩ := R
    try dsimp only at *
    go_enter Tryz.func89, Tryz.ntmps89
    go_wp2_with fail
    refine HTK.out.mono ?_
    rintro e w1 ⟨rfl, h1, h2⟩
    have HR1 := Lib.hid (HR0.out.go HLT.out h1 h2)
    clear h1 h2 HTK
    go_wp2_with fail
    refine (HF.out _ HR1.out.rd).mono ?_
    rintro e w2 ⟨X, rfl, ht, h1, h2⟩
    have HR2 := Lib.hid (HR1.out.go HLT.out h1 h2)
    have HT2 := Lib.hid (ht.mono (B' := fun k => w.heap.size + 1 ≤ k) (fun k _ hk => by have := lt_block HR1.out.res; omega))
    clear h1 h2 ht HF HR1
    unfold XV.v
    go_wp2_with fail
    refine (made_any _ _ _ _ _).mono ?_
    rintro e w3 ⟨rfl, hb3⟩
    have hb2 : Below w2.heap.size w2 (w2.alloc (.cells #[.string X.o, .int .i64 X.x.k, .int .i64 X.x.i, .string X.x.s, .slice X.x.a X.x.n X.x.c, .string X.w, .string X.n, .slice X.a X.l X.c] 27 (0, 0))) := (Below.refl _ _).alloc (Nat.le_refl _) _
    have hb23 := hb2.trans (hb3.mono hb2.size)
    have hg : w3.heap[w2.heap.size]? = some (.cells X.cells.toArray 27 (0, 0)) := by rw [hb3.block _ (by simp)]; exact heap_alloc_new _ _
    have HR3 := Lib.hid (HR2.out.low hb23)
    have HFIN := Lib.hid (HR3.out.fin H.out (trAt_one (op := kNot) (HT2.out.low hb23) hg (lt_block HR2.out.res) 1))
    obtain ⟨z0, z1, z2, z3, z4, z5, z6, z7, zf⟩ := HR3.out.cells
    clear hb3 hb2 hb23 hg HT2
    unfold XV.v
    go_wp2_with fail
    exact bodyPost_ret (v := XV.v ⟨⟨#[110, 111, 116]⟩, ⟨0, 0, ⟨#[]⟩, none, 0, 0⟩, ⟨#[]⟩, ⟨#[]⟩, some ⟨w2.heap.size, 0, none⟩, 1, 1⟩) (by simp [results, Tryz.results89, go_sem, XV.v, z0, z1, z2, z3, z4, z5, z6, z7]) rfl HFIN.out
  · have hi' : isP (aheadP I.T p) kNot = false := by simpa using hi
    rw [if_neg hi]
    have HTK' := HTK.out
    rw [takes_no hi', hi'] at HTK'
    have HTK := Lib.hid HTK'
    clear HTK' hi hi' HF
    unfold RI.ptr at *
    generalize lower p = R at *
    obtain ⟨t, q⟩ := R
    try dsimp only at *
    go_enter Tryz.func89, Tryz.ntmps89
    go_wp2_with fail
    refine HTK.out.mono ?_
    rintro e w1 ⟨rfl, h1, h2⟩
    have HR1 := Lib.hid (HR0.out.go HLT.out h1 h2)
    clear h1 h2 HTK
    go_wp2_with fail
    refine (HLL.out _ HR1.out.rd).mono ?_
    rintro e w2 ⟨X, rfl, ht, h1, h2⟩
    have HR2 := Lib.hid (HR1.out.go HLT.out h1 h2)
    obtain ⟨z0, z1, z2, z3, z4, z5, z6, z7, zf⟩ := HR2.out.cells
    have HFIN := Lib.hid (HR2.out.fin H.out (ht.mono (B' := fun k => w.heap.size + 1 ≤ k) (fun k _ hk => by have := lt_block HR1.out.res; omega)))
    clear h1 h2 ht HLL HR1
    unfold XV.v
    go_wp2_with fail
    exact bodyPost_ret (v := X.v) (by simp [results, Tryz.results89, go_sem, XV.v, z0, z1, z2, z3, z4, z5, z6, z7]) rfl HFIN.out
set_option maxRecDepth 100000 in
set_option maxHeartbeats 2000000 in
theorem neg_one (I : RI) (w : World) (p : PS) (h : Rd I w p) (part lower : PS → Tr × PS) (HF : isP (aheadP I.T p) kMinus = true → ∀ W, Rd I W (passP p) → Calls Tryz.prog 144 #[I.ptr] W (PostT I W (part (passP p))))
    (HL : ∀ W, Rd I W p → Calls Tryz.prog 149 #[I.ptr] W (PostT I W (lower p))) :
    Calls Tryz.prog 144 #[I.ptr] w (PostT I w (if isP (aheadP I.T p) kMinus then (mk1 kNeg (part (passP p)).1, (part (passP p)).2) else lower p)) := by
  have HR0 := Lib.hid (resX_new h)
  have HLT := Lib.hid h.lt
  have H := Lib.hid h
  have HTK := Lib.hid (takes_any I _ p HR0.out.rd kMinus)
  have HLL := Lib.hid HL
  clear h HL
  by_cases hi : isP (aheadP I.T p) kMinus = true
  · rw [if_pos hi]
    have HF := Lib.hid (HF hi)
    have HTK' := HTK.out
    rw [takes_yes hi, hi] at HTK'
    have HTK := Lib.hid HTK'
    clear HTK' HLL hi
    unfold RI.ptr at *
    generalize part (passP p) = R at *
    obtain ⟨t, q⟩ := R
    try dsimp only at *
    go_enter Tryz.func144, Tryz.ntmps144
    go_wp2_with fail
    refine HTK.out.mono ?_
    rintro e w1 ⟨rfl, h1, h2⟩
    have HR1 := Lib.hid (HR0.out.go HLT.out h1 h2)
    clear h1 h2 HTK
    go_wp2_with fail
    refine (HF.out _ HR1.out.rd).mono ?_
    rintro e w2 ⟨X, rfl, ht, h1, h2⟩
    have HR2 := Lib.hid (HR1.out.go HLT.out h1 h2)
    have HT2 := Lib.hid (ht.mono (B' := fun k => w.heap.size + 1 ≤ k) (fun k _ hk => by have := lt_block HR1.out.res; omega))
    clear h1 h2 ht HF HR1
    unfold XV.v
    go_wp2_with fail
    refine (made_any _ _ _ _ _).mono ?_
    rintro e w3 ⟨rfl, hb3⟩
    have hb2 : Below w2.heap.size w2 (w2.alloc (.cells #[.string X.o, .int .i64 X.x.k, .int .i64 X.x.i, .string X.x.s, .slice X.x.a X.x.n X.x.c, .string X.w, .string X.n, .slice X.a X.l X.c] 27 (0, 0))) := (Below.refl _ _).alloc (Nat.le_refl _) _
    have hb23 := hb2.trans (hb3.mono hb2.size)
    have hg : w3.heap[w2.heap.size]? = some (.cells X.cells.toArray 27 (0, 0)) := by rw [hb3.block _ (by simp)]; exact heap_alloc_new _ _
    have HR3 := Lib.hid (HR2.out.low hb23)
    have HFIN := Lib.hid (HR3.out.fin H.out (trAt_one (op := kNeg) (HT2.out.low hb23) hg (lt_block HR2.out.res) 1))
    obtain ⟨z0, z1, z2, z3, z4, z5, z6, z7, zf⟩ := HR3.out.cells
    clear hb3 hb2 hb23 hg HT2
    unfold XV.v
    go_wp2_with fail
    exact bodyPost_ret (v := XV.v ⟨⟨#[110, 101, 103]⟩, ⟨0, 0, ⟨#[]⟩, none, 0, 0⟩, ⟨#[]⟩, ⟨#[]⟩, some ⟨w2.heap.size, 0, none⟩, 1, 1⟩) (by simp [results, Tryz.results144, go_sem, XV.v, z0, z1, z2, z3, z4, z5, z6, z7]) rfl HFIN.out
  · have hi' : isP (aheadP I.T p) kMinus = false := by simpa using hi
    rw [if_neg hi]
    have HTK' := HTK.out
    rw [takes_no hi', hi'] at HTK'
    have HTK := Lib.hid HTK'
    clear HTK' hi hi' HF
    unfold RI.ptr at *
    generalize lower p = R at *
    obtain ⟨t, q⟩ := R
    try dsimp only at *
    go_enter Tryz.func144, Tryz.ntmps144
    go_wp2_with fail
    refine HTK.out.mono ?_
    rintro e w1 ⟨rfl, h1, h2⟩
    have HR1 := Lib.hid (HR0.out.go HLT.out h1 h2)
    clear h1 h2 HTK
    go_wp2_with fail
    refine (HLL.out _ HR1.out.rd).mono ?_
    rintro e w2 ⟨X, rfl, ht, h1, h2⟩
    have HR2 := Lib.hid (HR1.out.go HLT.out h1 h2)
    obtain ⟨z0, z1, z2, z3, z4, z5, z6, z7, zf⟩ := HR2.out.cells
    have HFIN := Lib.hid (HR2.out.fin H.out (ht.mono (B' := fun k => w.heap.size + 1 ≤ k) (fun k _ hk => by have := lt_block HR1.out.res; omega)))
    clear h1 h2 ht HLL HR1
    unfold XV.v
    go_wp2_with fail
    exact bodyPost_ret (v := X.v) (by simp [results, Tryz.results144, go_sem, XV.v, z0, z1, z2, z3, z4, z5, z6, z7]) rfl HFIN.out
end Go.Proofs.YtllgodaphoncnaaGreatDoor
namespace Go.Proofs.YtllgodaphoncnaaGreatDoor
open Go.RowKit

set_option maxRecDepth 100000 in
theorem rowW_two {I : RI} {w w6 w7 : World} {q : PS} {G N : Nat} {Y X2 : XV} {t t2 : Tr} {S : ByteArray} {ow : List UInt8} (hS : st ow = S) (h : RowW I w w6 q G Y t) (ht2 : TrAt (N ≤ ·) w6 t2 X2) (hN : G < N)
    (hb : Below (w6.alloc (.cells #[.string Y.o, .int .i64 Y.x.k, .int .i64 Y.x.i, .string Y.x.s, .slice Y.x.a Y.x.n Y.x.c, .string Y.w, .string Y.n, .slice Y.a Y.l Y.c, .string X2.o, .int .i64 X2.x.k, .int .i64 X2.x.i, .string X2.x.s, .slice X2.x.a X2.x.n X2.x.c, .string X2.w, .string X2.n, .slice X2.a X2.l X2.c] 27 (0, 0))).heap.size (w6.alloc (.cells #[.string Y.o, .int .i64 Y.x.k, .int .i64 Y.x.i, .string Y.x.s, .slice Y.x.a Y.x.n Y.x.c, .string Y.w, .string Y.n, .slice Y.a Y.l Y.c, .string X2.o, .int .i64 X2.x.k, .int .i64 X2.x.i, .string X2.x.s, .slice X2.x.a X2.x.n X2.x.c, .string X2.w, .string X2.n, .slice X2.a X2.l X2.c] 27 (0, 0))) w7) :
    ResX I w w7 q ∧ TrAt (w.heap.size + 1 ≤ ·) w7 (mk2 ow t t2) ⟨S, ⟨0, 0, ⟨#[]⟩, none, 0, 0⟩, ⟨#[]⟩, ⟨#[]⟩, some ⟨w6.heap.size, 0, none⟩, 2, 2⟩ := by
  subst hS
  have hb6 : Below w6.heap.size w6 (w6.alloc (.cells #[.string Y.o, .int .i64 Y.x.k, .int .i64 Y.x.i, .string Y.x.s, .slice Y.x.a Y.x.n Y.x.c, .string Y.w, .string Y.n, .slice Y.a Y.l Y.c, .string X2.o, .int .i64 X2.x.k, .int .i64 X2.x.i, .string X2.x.s, .slice X2.x.a X2.x.n X2.x.c, .string X2.w, .string X2.n, .slice X2.a X2.l X2.c] 27 (0, 0))) := (Below.refl _ _).alloc (Nat.le_refl _) _
  have hg6 : w7.heap[w6.heap.size]? = some (.cells (Y.cells ++ X2.cells).toArray 27 (0, 0)) := by
    rw [hb.block _ (by simp)]; exact heap_alloc_new _ _
  have hb7 : Below w6.heap.size w6 w7 := hb6.trans (hb.mono hb6.size)
  have hlG : G < w6.heap.size := lt_block h.at'
  have hnew := h.new
  have hw7 := h.low hb7
  exact ⟨hw7.res, trAt_two (hw7.tree.mono (fun k _ hk => hk.1)) ((ht2.low hb7).mono (fun k _ hk => by omega)) hg6 (by omega) 2⟩
set_option maxRecDepth 100000 in
set_option maxHeartbeats 1000000 in
theorem cmp_any (I : RI) (w : World) (p : PS) (h : Rd I w p) (part : PS → Tr × PS) (hpart : Reads1 I.T part) (HF : ∀ W q, Rd I W q → p.at' ≤ q.at' → Calls Tryz.prog 125 #[I.ptr] W (PostT I W (part q))) :
    Calls Tryz.prog 117 #[I.ptr] w (PostT I w (if (takesOneP I.T cmpOps (part p).2).1 = [] then part p else (mk2 (takesOneP I.T cmpOps (part p).2).1 (part p).1 (part (takesOneP I.T cmpOps (part p).2).2).1, (part (takesOneP I.T cmpOps (part p).2).2).2))) := by
  have HR0 := Lib.hid (resX_new h)
  have HLT := Lib.hid h.lt
  have H := Lib.hid h
  have hpq := (hpart p).mono
  have HF1 := Lib.hid (fun W (hr : Rd I W p) => HF W p hr (Nat.le_refl _))
  clear h
  obtain ⟨x0, hx0⟩ : ∃ x, part p = x := ⟨_, rfl⟩
  rw [hx0] at HF1 hpq ⊢
  obtain ⟨t, q⟩ := x0
  dsimp only at hpq ⊢
  have HTN := Lib.hid (fun W (hr : Rd I W q) c => takesNew_any I W q hr cmpOps 7 rfl (by omega) 9 (0, 0) #[.string ⟨#[61, 61]⟩, .string ⟨#[33, 61]⟩, .string ⟨#[60]⟩, .string ⟨#[60, 61]⟩, .string ⟨#[62]⟩, .string ⟨#[62, 61]⟩, .string ⟨#[105, 110]⟩] rfl c)
  have hoc := takesOne_cases (T := I.T) cmpOps q
  have hmo := (adv_takesOne (T := I.T) cmpOps q).mono
  obtain ⟨o, ho⟩ : ∃ o, takesOneP I.T cmpOps q = o := ⟨_, rfl⟩
  rw [ho] at HTN hoc hmo ⊢
  obtain ⟨ow, q2⟩ := o
  dsimp only at HTN hoc hmo ⊢
  have HFQ := Lib.hid (fun W (hr : Rd I W q2) => HF W q2 hr (by omega))
  generalize part q2 = R2 at *
  obtain ⟨t2, q3⟩ := R2
  have es := toList_st ow
  obtain ⟨S, hS⟩ : ∃ S, st ow = S := ⟨_, rfl⟩
  have HS := Lib.hid hS
  rw [hS] at es HTN
  unfold RI.ptr at *
  by_cases hw0 : ow = []
  · rw [if_pos hw0]
    subst hw0
    obtain rfl : q2 = q := by
      rcases hoc with ⟨hoc, -⟩ | ⟨s, hs, -, hoc⟩
      · exact (Prod.mk.inj hoc).2
      · have e := (Prod.mk.inj hoc).1
        subst e
        exact absurd hs (by decide)
    obtain rfl : S = ⟨#[]⟩ := hS.symm
    clear hS es hoc hmo ho hpq HF HFQ HS hx0
    go_enter Tryz.func117, Tryz.ntmps117
    go_wp2_with fail
    refine (HF1.out _ HR0.out.rd).mono ?_
    rintro e w1 ⟨Y, rfl, ht, h1, h2⟩
    have HR1 := Lib.hid (HR0.out.go HLT.out h1 h2)
    have HW1 := Lib.hid (rowW_new HR1.out (ht.mono (B' := fun k => w.heap.size + 1 ≤ k) (fun k _ hk => by simpa using hk)))
    clear h1 h2 ht HF1 HR0 HR1
    have HTT := Lib.hid (fun c => HTN.out _ HW1.out.res.rd c)
    simp only [World.size_alloc] at HTT
    unfold XV.v
    go_wp2_with fail
    refine (HTT.out _).mono ?_
    rintro e w2 ⟨rfl, h1, h2⟩
    have HW2 := Lib.hid (HW1.out.go HLT.out h1 h2)
    clear h1 h2 HTT HW1 HTN
    obtain ⟨y0, y1, y2, y3, y4, y5, y6, y7, -⟩ := HW2.out.cells
    obtain ⟨z0, z1, z2, z3, z4, z5, z6, z7, zf⟩ := HW2.out.res.cells
    have HFIN := Lib.hid (HW2.out.res.fin H.out (HW2.out.tree.mono (B' := fun k => w.heap.size + 1 ≤ k) (fun k _ hk => hk.1)))
    go_wp2_with fail
    exact bodyPost_ret (v := Y.v) (by simp [results, Tryz.results117, go_sem, XV.v, z0, z1, z2, z3, z4, z5, z6, z7]) rfl HFIN.out
  · rw [if_neg hw0]
    have hqq : (!ow.isEmpty) = true := by cases ow with | nil => exact absurd rfl hw0 | cons a l => rfl
    clear hS hoc hmo ho hpq HF hw0 hx0
    go_enter Tryz.func117, Tryz.ntmps117
    go_wp2_with fail
    refine (HF1.out _ HR0.out.rd).mono ?_
    rintro e w1 ⟨Y, rfl, ht, h1, h2⟩
    have HR1 := Lib.hid (HR0.out.go HLT.out h1 h2)
    have HW1 := Lib.hid (rowW_new HR1.out (ht.mono (B' := fun k => w.heap.size + 1 ≤ k) (fun k _ hk => by simpa using hk)))
    clear h1 h2 ht HF1 HR0 HR1
    have HTT := Lib.hid (fun c => HTN.out _ HW1.out.res.rd c)
    simp only [World.size_alloc] at HTT
    unfold XV.v
    go_wp2_with fail
    refine (HTT.out _).mono ?_
    rintro e w2 ⟨rfl, h1, h2⟩
    have HW2 := Lib.hid (HW1.out.go HLT.out h1 h2)
    clear h1 h2 HTT HW1 HTN
    generalize w1.heap.size = G at *
    clear w1
    go_wp2_with fail
    refine wp_region_any (by kernel_rfl) ?_
    change wpAny _ _ _ _ _ _ _ (World.drew _)
    have HW5 := Lib.hid (HW2.out.low (W' := w2.drew) (Below.refl _ _).drew)
    clear HW2
    generalize w2.drew = W5 at *
    refine wpAny_take (i := 0) (v := ?_) rfl (by kernel_rfl) (by kernel_rfl) (by kernel_rfl) (fun _ _ _ h => h) (Or.inl ⟨by rfl, ?_⟩) ?_
    rotate_left 1
    · intro w; go_simp; try with_reducible rfl
    refine wpAny_take (i := 2) (v := ?_) rfl (by kernel_rfl) (by kernel_rfl) (by kernel_rfl) (fun _ _ _ h => h) (Or.inl ⟨by rfl, ?_⟩) ?_
    rotate_left 1
    · intro w; go_simp; try with_reducible rfl
    refine wpAny_ready (rs := [1, 3]) (by kernel_rfl) (by simp) ?_
    refine AllReady.cons rfl (fun K hK => ?_) ?_
    · obtain ⟨y0, y1, y2, y3, y4, y5, y6, y7, -⟩ := HW5.out.cells
      go_simp
      refine hK _ _ ?_; clear hK K y0 y1 y2 y3 y4 y5 y6 y7
      refine wpAny_ready (rs := [3]) (by kernel_rfl) (by simp) ?_
      refine AllReady.cons rfl (fun K hK => ?_) AllReady.nil
      go_simp
      refine (HFQ.out _ HW5.out.res.rd).mono ?_
      rintro e w6 ⟨X2, rfl, ht2, h1, h2⟩
      have HS6 := Lib.hid (show W5.heap.size ≤ w6.heap.size from h2.size)
      have HW6 := Lib.hid (HW5.out.go HLT.out h1 h2)
      have HT6 := Lib.hid ht2
      clear h1 h2 ht2
      refine hK _ _ ?_; clear hK K
      refine wpAny_ready (rs := [4]) (by kernel_rfl) (by simp) ?_
      refine AllReady.cons rfl (fun K hK => ?_) AllReady.nil
      unfold XV.v
      go_simp
      refine hK _ _ ?_; clear hK K
      have hlG : G < W5.heap.size := lt_block HW5.out.at'
      have hw7 := fun w7 hb => rowW_two (S := S) (ow := ow) HS.out HW6.out HT6.out hlG hb (w7 := w7)
      have HW7 := Lib.hid hw7
      clear hw7
      refine wpAny_ready (rs := [5]) (by kernel_rfl) (by simp) ?_
      refine AllReady.cons rfl (fun K hK => ?_) AllReady.nil
      go_simp
      refine (made_any _ _ _ _ _).mono ?_
      rintro e w7 ⟨rfl, hb7⟩
      obtain ⟨hrx, htx⟩ := HW7.out w7 hb7
      have HFIN := Lib.hid (hrx.fin H.out htx)
      obtain ⟨z0, z1, z2, z3, z4, z5, z6, z7, zf⟩ := hrx.cells
      refine hK _ _ ?_; clear hK K hrx htx hb7 HW7 hlG
      unfold XV.v
      refine wpAny_ready (rs := [6]) (by kernel_rfl) (by simp) ?_
      refine AllReady.cons rfl (fun K hK => ?_) AllReady.nil
      go_simp
      refine hK _ _ ?_; clear hK K
      refine wpAny_done (by kernel_rfl) ?_ _
      go_wp2_with fail
      exact bodyPost_ret (v := XV.v ⟨S, ⟨0, 0, ⟨#[]⟩, none, 0, 0⟩, ⟨#[]⟩, ⟨#[]⟩, some ⟨w6.heap.size, 0, none⟩, 2, 2⟩) (by simp [results, Tryz.results117, go_sem, XV.v, z0, z1, z2, z3, z4, z5, z6, z7]) rfl HFIN.out
    refine AllReady.cons rfl (fun K hK => ?_) AllReady.nil
    go_simp
    refine (HFQ.out _ HW5.out.res.rd).mono ?_
    rintro e w6 ⟨X2, rfl, ht2, h1, h2⟩
    have HS6 := Lib.hid (show W5.heap.size ≤ w6.heap.size from h2.size)
    have HW6 := Lib.hid (HW5.out.go HLT.out h1 h2)
    have HT6 := Lib.hid ht2
    clear h1 h2 ht2
    refine hK _ _ ?_; clear hK K
    refine wpAny_ready (rs := [1]) (by kernel_rfl) (by simp) ?_
    refine AllReady.cons rfl (fun K hK => ?_) AllReady.nil
    obtain ⟨y0, y1, y2, y3, y4, y5, y6, y7, -⟩ := HW6.out.cells
    go_simp
    refine hK _ _ ?_; clear hK K y0 y1 y2 y3 y4 y5 y6 y7
    refine wpAny_ready (rs := [4]) (by kernel_rfl) (by simp) ?_
    refine AllReady.cons rfl (fun K hK => ?_) AllReady.nil
    unfold XV.v
    go_simp
    refine hK _ _ ?_; clear hK K
    have hlG : G < W5.heap.size := lt_block HW5.out.at'
    have hw7 := fun w7 hb => rowW_two (S := S) (ow := ow) HS.out HW6.out HT6.out hlG hb (w7 := w7)
    have HW7 := Lib.hid hw7
    clear hw7
    refine wpAny_ready (rs := [5]) (by kernel_rfl) (by simp) ?_
    refine AllReady.cons rfl (fun K hK => ?_) AllReady.nil
    go_simp
    refine (made_any _ _ _ _ _).mono ?_
    rintro e w7 ⟨rfl, hb7⟩
    obtain ⟨hrx, htx⟩ := HW7.out w7 hb7
    have HFIN := Lib.hid (hrx.fin H.out htx)
    obtain ⟨z0, z1, z2, z3, z4, z5, z6, z7, zf⟩ := hrx.cells
    refine hK _ _ ?_; clear hK K hrx htx hb7 HW7 hlG
    unfold XV.v
    refine wpAny_ready (rs := [6]) (by kernel_rfl) (by simp) ?_
    refine AllReady.cons rfl (fun K hK => ?_) AllReady.nil
    go_simp
    refine hK _ _ ?_; clear hK K
    refine wpAny_done (by kernel_rfl) ?_ _
    go_wp2_with fail
    exact bodyPost_ret (v := XV.v ⟨S, ⟨0, 0, ⟨#[]⟩, none, 0, 0⟩, ⟨#[]⟩, ⟨#[]⟩, some ⟨w6.heap.size, 0, none⟩, 2, 2⟩) (by simp [results, Tryz.results117, go_sem, XV.v, z0, z1, z2, z3, z4, z5, z6, z7]) rfl HFIN.out
end Go.Proofs.YtllgodaphoncnaaGreatDoor
