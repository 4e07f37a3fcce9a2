/- A reader in memory; the token ahead; A reader's small calls: what went wrong, and going on. -/
import Derived.Test.YtllgodaphoncnaaGreatDoorJ24
import Derived.Test.YtllgodaphoncnaaGreatDoorJ26
import Derived.Test.YtllgodaphoncnaaGreatDoorLLow
import Derived.Test.YtllgodaphoncnaaGreatDoorKQuiet0
namespace Go.Proofs.YtllgodaphoncnaaGreatDoor
open Go.RowKit

/-- a reader: its tokens, where they lie, and where it lies -/
structure RI where
  T : List Tk
  ad : Option Addr
  g : Nat
  o : Nat
  c : Nat
  b : Nat
  Ty : TypeId
  wide : ∀ t ∈ T, t.Wide
  len : T.length ≤ 600
  gb : T ≠ [] → g ≠ b
  hb : 9 ≤ b
def RI.ptr (I : RI) : Value := .pointer (some ⟨I.b, 0, none⟩)
def errE (p : PS) : Int := match p.err with | some x => x.1 | none => 0
def errP (p : PS) : Nat := match p.err with | some x => x.2 | none => 0
def RI.cells (I : RI) (p : PS) : Array Value := #[.slice I.ad I.T.length I.c, .int .i64 p.at', .int .i64 (errP p), .int .i64 (errE p)]
/-- a reader in memory -/
structure Rd (I : RI) (w : World) (p : PS) : Prop where
  lex : LexW w
  toks : TokAt w I.ad I.g I.o I.T
  blk : w.heap[I.b]? = some (.cells (I.cells p) I.Ty (0, 0))
  at' : p.at' ≤ I.T.length
  err : ∀ x, p.err = some x → x.1 ≠ 0
set_option maxRecDepth 100000 in
theorem LexW.kept {w w' : World} {b : Nat} (h : LexW w) (hk : Kept1 b w w') (hb : 9 ≤ b) (hs : b < w.heap.size) : LexW w' :=
  h.low (N := b) ⟨hk.os, hk.tape, hk.output, by have := hk.size; omega, fun k hlt => hk.block k (by omega) (by omega)⟩ hb
set_option maxRecDepth 100000 in
theorem RowsAt.kept {w w' : World} {ad : Option Addr} {g o k b : Nat} {α : Type} {f : α → List Value} {l : List α} (h : RowsAt w ad g o k f l) (hk : Kept1 b w w') (hg : l ≠ [] → g ≠ b) (hf : ∀ x ∈ l, (f x).length = k) : RowsAt w' ad g o k f l := by
  refine ⟨h.addr, fun i hi j hj => ?_⟩
  have h0 := h.cell i hi j hj
  rw [← h0]
  refine hk.cell ?_ (hg (by intro e; subst e; cases hi))
  rw [List.getElem?_eq_getElem (by rw [hf _ (List.getElem_mem _)]; exact hj)] at h0
  exact block_lt_of_cell h0
set_option maxRecDepth 100000 in
theorem RowsAt.below {w w' : World} {ad : Option Addr} {g o k : Nat} {α : Type} {f : α → List Value} {l : List α} (h : RowsAt w ad g o k f l) (hk : Below w.heap.size w w') (hf : ∀ x ∈ l, (f x).length = k) : RowsAt w' ad g o k f l := by
  refine ⟨h.addr, fun i hi j hj => ?_⟩
  have h0 := h.cell i hi j hj
  rw [← h0]
  refine hk.cell ?_
  rw [List.getElem?_eq_getElem (by rw [hf _ (List.getElem_mem _)]; exact hj)] at h0
  exact block_lt_of_cell h0
set_option maxRecDepth 100000 in
theorem Rd.lt {I : RI} {w : World} {p : PS} (h : Rd I w p) : I.b < w.heap.size := lt_block h.blk
set_option maxRecDepth 100000 in
theorem Rd.kept {I : RI} {w w' : World} {p q : PS} (h : Rd I w p) (hk : Kept1 I.b w w') (hb : w'.heap[I.b]? = some (.cells (I.cells q) I.Ty (0, 0))) (ha : q.at' ≤ I.T.length) (he : ∀ x, q.err = some x → x.1 ≠ 0) : Rd I w' q :=
  ⟨h.lex.kept hk I.hb h.lt, h.toks.kept hk I.gb (fun _ _ => rfl), hb, ha, he⟩
set_option maxRecDepth 100000 in
theorem Rd.below {I : RI} {w w' : World} {p : PS} (h : Rd I w p) (hb : Below w.heap.size w w') : Rd I w' p :=
  h.kept (.of_below hb) ((hb.block _ h.lt).trans h.blk) h.at' h.err
set_option maxRecDepth 100000 in
theorem Rd.c0 {I : RI} {w : World} {p : PS} (h : Rd I w p) : w.cell? ⟨I.b, 0, none⟩ = some (.slice I.ad I.T.length I.c) := cell_block h.blk 0
set_option maxRecDepth 100000 in
theorem Rd.c1 {I : RI} {w : World} {p : PS} (h : Rd I w p) : w.cell? ⟨I.b, 1, none⟩ = some (.int .i64 p.at') := cell_block h.blk 1
set_option maxRecDepth 100000 in
theorem Rd.c2 {I : RI} {w : World} {p : PS} (h : Rd I w p) : w.cell? ⟨I.b, 2, none⟩ = some (.int .i64 (errP p)) := cell_block h.blk 2
set_option maxRecDepth 100000 in
theorem Rd.c3 {I : RI} {w : World} {p : PS} (h : Rd I w p) : w.cell? ⟨I.b, 3, none⟩ = some (.int .i64 (errE p)) := cell_block h.blk 3
set_option maxRecDepth 100000 in
theorem Rd.fz {I : RI} {w : World} {p : PS} (h : Rd I w p) (o : Nat) : w.frozen? ⟨I.b, o, none⟩ = false := by simp [World.frozen?, h.blk]
set_option maxRecDepth 100000 in
theorem Rd.tok {I : RI} {w : World} {p : PS} (h : Rd I w p) (hl : p.at' < I.T.length) : I.ad = some ⟨I.g, I.o, none⟩ ∧ w.cell? ⟨I.g, I.o + p.at' * 3, none⟩ = some (.int .i64 I.T[p.at'].k) ∧ w.cell? ⟨I.g, I.o + p.at' * 3 + 1, none⟩ = some (.string (st I.T[p.at'].s)) ∧ w.cell? ⟨I.g, I.o + p.at' * 3 + 2, none⟩ = some (.int .i64 I.T[p.at'].n) := by
  refine ⟨h.toks.addr (by intro e; rw [e] at hl; cases hl), ?_, ?_, ?_⟩
  · exact h.toks.cell p.at' hl 0 (by omega)
  · exact h.toks.cell p.at' hl 1 (by omega)
  · exact h.toks.cell p.at' hl 2 (by omega)

set_option maxRecDepth 100000 in
set_option maxHeartbeats 4000000 in
theorem ahead_any (I : RI) (w : World) (p : PS) (h : Rd I w p) :
    Calls Tryz.prog 94 #[I.ptr] w fun e w' => e = .returned (aheadP I.T p).val ∧ Below w.heap.size w w' := by
  obtain ⟨W, hW⟩ : ∃ W, w.alloc (.cells #[.int .i64 0, .string ⟨#[]⟩, .int .i64 0] 41) = W := ⟨_, rfl⟩
  have hbW : Below w.heap.size w W := by rw [← hW]; exact (Below.refl _ _).alloc (Nat.le_refl _) _
  have hres : W.heap[w.heap.size]? = some (.cells #[.int .i64 0, .string ⟨#[]⟩, .int .i64 0] 41 (0, 0)) := by rw [← hW]; exact heap_alloc_new _ _
  have hR := h.below hbW
  have HBW := Lib.hid hbW
  have HRES := Lib.hid hres
  have HW := Lib.hid hW
  have HRD := Lib.hid hR
  have r0 := fun m : Bl W => (hR.below m.below).c0
  have r1 := fun m : Bl W => (hR.below m.below).c1
  have r3 := fun m : Bl W => (hR.below m.below).c3
  have hlen := I.len
  have hat := h.at'
  have herr := h.err
  have hno : noTk.val = .agg #[.int .i64 0, .string ⟨#[]⟩, .int .i64 0] := rfl
  have HNO := Lib.hid hno
  clear hW hbW hres hR h hno
  unfold RI.ptr
  cases he : p.err with
  | some x =>
    have e0 : aheadP I.T p = noTk := ahead_err (by rw [he]; simp)
    have e3 : errE p = x.1 := by unfold errE; rw [he]
    have hx : (x.1 != 0) = true := by simpa using herr x he
    rw [e0]
    rw [e3] at r3
    clear e0 e3 he herr
    obtain ⟨E, hE⟩ : ∃ E, x.1 = E := ⟨_, rfl⟩
    rw [hE] at r3 hx
    clear hE
    go_enter Tryz.func94, Tryz.ntmps94
    go_wp2_with fail
    rw [HW.out]
    refine wp_region_quietB (by kernel_rfl) (by kernel_rfl) ?_
    iterate 31 (go_big_quiet_step (fail))
    refine wpQuiet_nil ?_
    intro m
    have HBM := Lib.hid (HBW.out.trans (m.below.mono HBW.out.size))
    have hres := (m.below.block _ (lt_block HRES.out)).trans HRES.out
    clear r0 r1 r3
    generalize m.wr = W2 at *
    clear m
    have x0 := cell_block hres 0
    have x1 := cell_block hres 1
    have x2 := cell_block hres 2
    have xf : ∀ o, W2.frozen? ⟨w.heap.size, o, none⟩ = false := fun o => by simp [World.frozen?, hres]
    simp only [List.getElem?_toArray, List.getElem?_cons_zero, List.getElem?_cons_succ] at x0 x1 x2
    go_wp2_with fail
    exact bodyPost_ret (v := .agg #[.int .i64 0, .string ⟨#[]⟩, .int .i64 0]) (by simp [results, Tryz.results94, go_sem, x0, x1, x2]) rfl ⟨by rw [HNO.out], ((HBM.out.setCell (Nat.le_refl _) _).setCell (Nat.le_refl _) _).setCell (Nat.le_refl _) _⟩
  | none =>
    have e3 : errE p = 0 := by unfold errE; rw [he]
    rw [e3] at r3
    have hx : ((0 : Int) != 0) = false := rfl
    rcases Nat.lt_or_eq_of_le hat with hl | hl
    case inr =>
      have e0 : aheadP I.T p = noTk := by
        unfold aheadP; rw [he]; simp only [Option.isSome_none, Bool.false_eq_true, if_false]
        rw [List.getElem?_eq_none (by omega)]
      have hq : ((p.at' : Int) == (I.T.length : Int)) = true := by simp; omega
      rw [e0]
      clear e0 e3 he herr
      obtain ⟨n, hn⟩ : ∃ n, I.T.length = n := ⟨_, rfl⟩
      obtain ⟨k, hk⟩ : ∃ k, p.at' = k := ⟨_, rfl⟩
      rw [hn] at r0 hlen hq
      rw [hk] at r1 hq
      clear hat hl hn hk
      go_enter Tryz.func94, Tryz.ntmps94
      go_wp2_with fail
      rw [HW.out]
      refine wp_region_quietB (by kernel_rfl) (by kernel_rfl) ?_
      iterate 31 (go_big_quiet_step (fail))
      refine wpQuiet_nil ?_
      intro m
      have HBM := Lib.hid (HBW.out.trans (m.below.mono HBW.out.size))
      have hres := (m.below.block _ (lt_block HRES.out)).trans HRES.out
      clear r0 r1 r3
      generalize m.wr = W2 at *
      clear m
      have x0 := cell_block hres 0
      have x1 := cell_block hres 1
      have x2 := cell_block hres 2
      have xf : ∀ o, W2.frozen? ⟨w.heap.size, o, none⟩ = false := fun o => by simp [World.frozen?, hres]
      simp only [List.getElem?_toArray, List.getElem?_cons_zero, List.getElem?_cons_succ] at x0 x1 x2
      go_wp2_with fail
      exact bodyPost_ret (v := .agg #[.int .i64 0, .string ⟨#[]⟩, .int .i64 0]) (by simp [results, Tryz.results94, go_sem, x0, x1, x2]) rfl ⟨by rw [HNO.out], ((HBM.out.setCell (Nat.le_refl _) _).setCell (Nat.le_refl _) _).setCell (Nat.le_refl _) _⟩
    case inl =>
      have hq : ((p.at' : Int) == (I.T.length : Int)) = false := by simp; omega
      obtain ⟨t, ht⟩ : ∃ t, I.T[p.at'] = t := ⟨_, rfl⟩
      have e0 : aheadP I.T p = if formB t then t else noTk := by
        unfold aheadP; rw [he]; simp only [Option.isSome_none, Bool.false_eq_true, if_false]
        rw [List.getElem?_eq_getElem hl, ht]
      have htw : t.Wide := by rw [← ht]; exact I.wide _ (List.getElem_mem _)
      have F : Hid (∀ W' : World, Below W.heap.size W W' → Calls Tryz.prog 53 #[t.val] W' fun e w' => e = .returned (.bool (formB t)) ∧ Below W'.heap.size W' w') := Lib.hid (fun W' hb => wformed_any W' (HRD.out.below hb).lex t htw)
      have t0 := fun m : Bl W => ((HRD.out.below m.below).tok hl).2.1
      have t1 := fun m : Bl W => ((HRD.out.below m.below).tok hl).2.2.1
      have t2 := fun m : Bl W => ((HRD.out.below m.below).tok hl).2.2.2
      have had := (HRD.out.tok hl).1
      rw [had] at r0
      rw [ht] at t0 t1 t2
      rw [e0]
      obtain ⟨tk, ts, tn⟩ := t
      have R0 := Lib.hid (fun W' (hb : Below W.heap.size W W') => (HRD.out.below hb).c0)
      rw [had] at R0
      have R1 := Lib.hid (fun W' (hb : Below W.heap.size W W') => (HRD.out.below hb).c1)
      have T0 := Lib.hid (fun W' (hb : Below W.heap.size W W') => ((HRD.out.below hb).tok hl).2)
      rw [ht] at T0
      unfold Tk.val Tk.cells at F ⊢
      dsimp only at F t0 t1 t2 T0 ⊢
      clear e0 e3 he herr had htw hat ht
      obtain ⟨n, hn⟩ : ∃ n, I.T.length = n := ⟨_, rfl⟩
      obtain ⟨k, hk⟩ : ∃ k, p.at' = k := ⟨_, rfl⟩
      rw [hn] at r0 hlen hq hl R0
      rw [hk] at r1 hq hl t0 t1 t2 R1 T0
      obtain ⟨f, hf⟩ : ∃ f, formB ⟨tk, ts, tn⟩ = f := ⟨_, rfl⟩
      rw [hf] at F ⊢
      clear hn hk hf
      obtain ⟨s, hs⟩ : ∃ s, st ts = s := ⟨_, rfl⟩
      have hV : Value.agg (if f = true then ({ k := tk, s := ts, n := tn } : Tk) else noTk).cells.toArray = if f = true then .agg #[.int .i64 tk, .string s, .int .i64 tn] else .agg #[.int .i64 0, .string ⟨#[]⟩, .int .i64 0] := by
        rw [← hs]; cases f <;> rfl
      have HV := Lib.hid hV
      have hV' : Value.agg #[Value.int .i64 (if f = true then ({ k := tk, s := ts, n := tn } : Tk) else noTk).k, .string (st (if f = true then ({ k := tk, s := ts, n := tn } : Tk) else noTk).s), .int .i64 (if f = true then ({ k := tk, s := ts, n := tn } : Tk) else noTk).n] = if f = true then .agg #[.int .i64 tk, .string s, .int .i64 tn] else .agg #[.int .i64 0, .string ⟨#[]⟩, .int .i64 0] := hV
      rw [hs] at F t1 T0
      first | rw [hV'] | rw [hV]
      clear hV hV' hs
      go_enter Tryz.func94, Tryz.ntmps94
      go_wp2_with fail
      rw [HW.out]
      refine wp_region_quietB (by kernel_rfl) (by kernel_rfl) ?_
      iterate 31 (go_big_quiet_step ((go_at_call 53; with_reducible exact Calls.quiet_b (F.out _ (Bl.below _)))))
      refine wpQuiet_nil ?_
      intro m
      have HBM := Lib.hid (HBW.out.trans (m.below.mono HBW.out.size))
      have hres := (m.below.block _ (lt_block HRES.out)).trans HRES.out
      have HR0 := Lib.hid (fun m2 : Bl m.wr => R0.out m2.wr (m.below.trans (m2.below.mono m.below.size)))
      have HR1 := Lib.hid (fun m2 : Bl m.wr => R1.out m2.wr (m.below.trans (m2.below.mono m.below.size)))
      have HT0 := Lib.hid (fun m2 : Bl m.wr => T0.out m2.wr (m.below.trans (m2.below.mono m.below.size)))
      clear r0 r1 r3 t0 t1 t2 F R0 R1 T0
      generalize m.wr = W2 at *
      clear m
      cases f with
      | false =>
        clear HR0 HR1 HT0
        have x0 := cell_block hres 0
        have x1 := cell_block hres 1
        have x2 := cell_block hres 2
        have xf : ∀ o, W2.frozen? ⟨w.heap.size, o, none⟩ = false := fun o => by simp [World.frozen?, hres]
        simp only [List.getElem?_toArray, List.getElem?_cons_zero, List.getElem?_cons_succ] at x0 x1 x2
        go_wp2_with fail
        exact bodyPost_ret (v := .agg #[.int .i64 0, .string ⟨#[]⟩, .int .i64 0]) (by simp [results, Tryz.results94, go_sem, x0, x1, x2]) rfl ⟨rfl, ((HBM.out.setCell (Nat.le_refl _) _).setCell (Nat.le_refl _) _).setCell (Nat.le_refl _) _⟩
      | true =>
        have HRES2 := Lib.hid hres
        clear hres
        go_wp2_with fail
        have r0 := HR0.out
        have r1 := HR1.out
        have t0 := fun m : Bl W2 => (HT0.out m).1
        have t1 := fun m : Bl W2 => (HT0.out m).2.1
        have t2 := fun m : Bl W2 => (HT0.out m).2.2
        refine wp_region_quiet_tailB 10 (by kernel_rfl) (by kernel_rfl) ?_
        simp only [List.take_succ_cons, List.take_zero, List.drop_succ_cons, List.drop_zero]
        iterate 10 (go_big_quiet_step (fail))
        refine wpQuiet_nil ?_
        intro m
        have HBM3 := Lib.hid (HBM.out.trans (m.below.mono HBM.out.size))
        have hres := (m.below.block _ (lt_block HRES2.out)).trans HRES2.out
        clear r0 r1 t0 t1 t2 HR0 HR1 HT0
        generalize m.wr = W3 at *
        clear m
        have x0 := cell_block hres 0
        have x1 := cell_block hres 1
        have x2 := cell_block hres 2
        have xf : ∀ o, W3.frozen? ⟨w.heap.size, o, none⟩ = false := fun o => by simp [World.frozen?, hres]
        simp only [List.getElem?_toArray, List.getElem?_cons_zero, List.getElem?_cons_succ] at x0 x1 x2
        go_wp2_with fail
        exact bodyPost_ret (v := .agg #[.int .i64 tk, .string s, .int .i64 tn]) (by simp [results, Tryz.results94, go_sem, x0, x1, x2]) rfl ⟨rfl, ((HBM3.out.setCell (Nat.le_refl _) _).setCell (Nat.le_refl _) _).setCell (Nat.le_refl _) _⟩
end Go.Proofs.YtllgodaphoncnaaGreatDoor
namespace Go.Proofs.YtllgodaphoncnaaGreatDoor
open Go.RowKit

set_option maxRecDepth 100000 in
theorem heap_set2 {w : World} {g : Nat} {C : Array Value} {T : TypeId} (h : w.heap[g]? = some (.cells C T (0, 0))) (i : Nat) (x : Value) (j : Nat) (y : Value) :
    ((w.setCell ⟨g, i, none⟩ x).setCell ⟨g, j, none⟩ y).heap[g]? = some (.cells ((C.setIfInBounds i x).setIfInBounds j y) T (0, 0)) := by
  have h1 := heap_setCell_same w g i C T x h
  exact heap_setCell_same _ g j _ T y h1
set_option maxRecDepth 100000 in
theorem Rd.set {I : RI} {w : World} {p q : PS} (h : Rd I w p) (i : Nat) (x : Value) (hc : (I.cells p).setIfInBounds i x = I.cells q) (ha : q.at' ≤ I.T.length) (he : ∀ x, q.err = some x → x.1 ≠ 0) : Rd I (w.setCell ⟨I.b, i, none⟩ x) q := by
  refine h.kept ((Kept1.refl _ _).setCell ⟨I.b, i, none⟩ (.inl rfl) x) ?_ ha he
  rw [heap_setCell_same w I.b i _ I.Ty x h.blk, hc]
set_option maxRecDepth 100000 in
theorem pass_any (I : RI) (w : World) (p : PS) (h : Rd I w p) (hl : p.at' < I.T.length) :
    Calls Tryz.prog 95 #[I.ptr] w fun e w' => e = .returned (.tuple #[]) ∧ Rd I w' (passP p) ∧ Kept1 I.b w w' := by
  have c1 := h.c1
  have cf := h.fz
  have hlen := I.len
  have H := Lib.hid h
  have HQ : Hid (Rd I (w.setCell ⟨I.b, 1, none⟩ (.int .i64 ((p.at' : Int) + 1))) (passP p)) := Lib.hid (h.set 1 _ (by simp [RI.cells, passP, errP, errE]) (by simp only [passP]; omega) (fun x hx => h.err x hx))
  clear h
  unfold RI.ptr
  obtain ⟨k, hk⟩ : ∃ k, p.at' = k := ⟨_, rfl⟩
  rw [hk] at c1 hl HQ
  clear hk
  go_enter Tryz.func95, Tryz.ntmps95
  go_wp2_with fail
  go_end0
  exact ⟨rfl, HQ.out, (Kept1.refl _ _).setCell ⟨I.b, 1, none⟩ (.inl rfl) _⟩
set_option maxRecDepth 100000 in
set_option maxHeartbeats 1000000 in
theorem fail_any (I : RI) (w : World) (p : PS) (h : Rd I w p) (e : Int) (he : e ≠ 0) (pl : Nat) :
    Calls Tryz.prog 90 #[I.ptr, .int .i64 e, .int .i64 pl] w fun e' w' => e' = .returned (.tuple #[]) ∧ Rd I w' (failP e pl p) ∧ Kept1 I.b w w' := by
  have c3 := h.c3
  have cf := h.fz
  have c2 := h.c2
  unfold RI.ptr
  cases hp : p.err with
  | some x =>
    have e3 : errE p = x.1 := by unfold errE; rw [hp]
    have hx : (x.1 == 0) = false := by simpa using h.err x hp
    have e0 : failP e pl p = p := by unfold failP; rw [hp]; rfl
    rw [e0]
    rw [e3] at c3
    have H := Lib.hid h
    clear e3 hp e0 h c2 he
    obtain ⟨E, hE⟩ : ∃ E, x.1 = E := ⟨_, rfl⟩
    rw [hE] at c3 hx
    clear hE
    go_enter Tryz.func90, Tryz.ntmps90
    go_wp2_with fail
    go_end0
    exact ⟨rfl, H.out, Kept1.refl _ _⟩
  | none =>
    have e3 : errE p = 0 := by unfold errE; rw [hp]
    have e0 : failP e pl p = { p with err := some (e, pl) } := by unfold failP; rw [hp]; rfl
    rw [e3] at c3
    have HQ : Hid (Rd I ((w.setCell ⟨I.b, 3, none⟩ (.int .i64 e)).setCell ⟨I.b, 2, none⟩ (.int .i64 pl)) (failP e pl p)) := Lib.hid (by
      refine h.kept (((Kept1.refl _ _).setCell ⟨I.b, 3, none⟩ (.inl rfl) _).setCell ⟨I.b, 2, none⟩ (.inl rfl) _) ?_ (by rw [e0]; exact h.at') (by rw [e0]; intro x hx; simp at hx; subst hx; exact he)
      rw [heap_set2 h.blk, e0]
      simp [RI.cells, errP, errE])
    clear e3 hp e0 h he
    obtain ⟨q, hq⟩ : ∃ q, failP e pl p = q := ⟨_, rfl⟩
    rw [hq] at HQ ⊢
    clear hq
    go_enter Tryz.func90, Tryz.ntmps90
    go_wp2_with fail
    go_end0
    exact ⟨rfl, HQ.out, ((Kept1.refl _ _).setCell ⟨I.b, 3, none⟩ (.inl rfl) _).setCell ⟨I.b, 2, none⟩ (.inl rfl) _⟩
set_option maxRecDepth 100000 in
theorem stop_any (I : RI) (w : World) (p : PS) (h : Rd I w p) :
    Calls Tryz.prog 62 #[I.ptr] w fun e w' => e = .returned (.tuple #[]) ∧ Rd I w' (stopP p) ∧ Kept1 I.b w w' := by
  have HF := Lib.hid (fail_any I w p h 2 (by decide) p.at')
  have c1 := h.c1
  clear h
  unfold stopP
  unfold RI.ptr at HF ⊢
  go_enter Tryz.func62, Tryz.ntmps62
  go_wp2_with fail
  refine HF.out.mono ?_
  rintro e w' ⟨rfl, h1, h2⟩
  have H1 := Lib.hid h1
  have H2 := Lib.hid h2
  clear h1 h2 HF
  go_wp2_with fail
  go_end0
  exact ⟨rfl, H1.out, H2.out⟩
set_option maxRecDepth 100000 in
theorem end_any (I : RI) (w : World) (p : PS) (h : Rd I w p) :
    Calls Tryz.prog 41 #[I.ptr] w fun e w' => e = .returned (.tuple #[]) ∧ Rd I w' (if p.at' < I.T.length then stopP p else p) ∧ Kept1 I.b w w' := by
  have HS := Lib.hid (fun W (hb : Below w.heap.size w W) => stop_any I W p (h.below hb))
  have r0 := fun m : Bl w => (h.below m.below).c0
  have r1 := fun m : Bl w => (h.below m.below).c1
  have hlen := I.len
  have hat := h.at'
  have H := Lib.hid h
  clear h
  unfold RI.ptr at HS ⊢
  have HQ : (if p.at' < I.T.length then stopP p else p) = if decide (p.at' < I.T.length) = true then stopP p else p := by simp
  rw [HQ]
  clear HQ
  obtain ⟨n, hn⟩ : ∃ n, I.T.length = n := ⟨_, rfl⟩
  rw [hn] at r0 hlen hat ⊢
  obtain ⟨k, hk⟩ : ∃ k, p.at' = k := ⟨_, rfl⟩
  rw [hk] at r1 hat ⊢
  clear hn hk
  obtain ⟨b, hb⟩ : ∃ b, decide (k < n) = b := ⟨_, rfl⟩
  rw [hb]
  have dl : decide ((k : Int) < (n : Int)) = b := by rw [← hb]; simp
  have dp : (k < n) = (b = true) := by rw [← hb]; simp
  clear hb
  go_enter Tryz.func41, Tryz.ntmps41
  go_wp2_with fail
  refine wp_region_quietB (by kernel_rfl) (by kernel_rfl) ?_
  iterate 10 (go_big_quiet_step (fail))
  refine wpQuiet_nil ?_
  intro m
  have HM := Lib.hid m.below
  have HSM := Lib.hid (HS.out m.wr m.below)
  clear r0 r1 HS
  generalize m.wr = W at *
  clear m
  cases b with
  | true =>
    have dp : (k < n) = True := by rw [dp]; simp
    go_wp2_with fail
    refine HSM.out.mono ?_
    rintro e w' ⟨rfl, h1, h2⟩
    have H1 := Lib.hid h1
    have H2 := Lib.hid h2
    clear h1 h2 HSM
    go_wp2_with fail
    go_end0
    exact ⟨rfl, H1.out, (Kept1.of_below HM.out).trans H2.out⟩
  | false =>
    have dp : (k < n) = False := by rw [dp]; simp
    go_wp2_with fail
    go_end0
    exact ⟨rfl, H.out.below HM.out, Kept1.of_below HM.out⟩
set_option maxRecDepth 100000 in
/-- a token as it is handed back -/
theorem tok_val (t : Tk) : t.val = .agg #[.int .i64 t.k, .string (st t.s), .int .i64 t.n] := rfl
set_option maxRecDepth 100000 in
set_option maxHeartbeats 2000000 in
theorem takes_any (I : RI) (w : World) (p : PS) (h : Rd I w p) (s : List UInt8) :
    Calls Tryz.prog 64 #[I.ptr, .string (st s)] w fun e w' => e = .returned (.bool (isP (aheadP I.T p) s)) ∧ Rd I w' (takesP I.T s p).2 ∧ Kept1 I.b w w' := by
  have HA := Lib.hid (ahead_any I w p h)
  have HP := Lib.hid (fun (hk : (aheadP I.T p).k ≠ 0) W (hb : Below w.heap.size w W) => pass_any I W p (h.below hb) (ahead_ne hk).2.1)
  have H := Lib.hid h
  clear h
  have e2 : (takesP I.T s p).2 = if isP (aheadP I.T p) s then passP p else p := by unfold takesP; split <;> rfl
  rw [e2]
  clear e2
  obtain ⟨t, ht⟩ : ∃ t, aheadP I.T p = t := ⟨_, rfl⟩
  rw [ht] at HA HP ⊢
  clear ht
  obtain ⟨tk, ts, tn⟩ := t
  rw [tok_val] at HA
  unfold RI.ptr at *
  dsimp only at *
  have es := toList_st s
  have et := toList_st ts
  unfold isP
  dsimp only
  obtain ⟨S, hS⟩ : ∃ S, st s = S := ⟨_, rfl⟩
  obtain ⟨TS, hTS⟩ : ∃ S, st ts = S := ⟨_, rfl⟩
  rw [hS] at es ⊢
  rw [hTS] at et HA
  obtain ⟨q, hq⟩ : ∃ q, (ts == s) = q := ⟨_, rfl⟩
  rw [hq]
  clear hS hTS
  obtain ⟨R, hR⟩ : ∃ R, ((tk == 1 || tk == 5) && q) = R := ⟨_, rfl⟩
  rw [hR]
  by_cases h1 : tk = 1
  · subst h1
    cases q with
    | true =>
      obtain rfl : R = true := hR.symm
      clear hR
      go_enter Tryz.func64, Tryz.ntmps64
      go_wp2_with fail
      refine HA.out.mono ?_
      rintro e w' ⟨rfl, hb⟩
      have HB := Lib.hid hb
      clear hb HA
      go_wp2_with fail
      refine (HP.out (by decide) _ (HB.out.alloc HB.out.size _)).mono ?_
      rintro e w2 ⟨rfl, h1, h2⟩
      have H1 := Lib.hid h1
      have H2 := Lib.hid ((Kept1.of_below (HB.out.alloc HB.out.size _)).trans h2)
      clear h1 h2 HP
      go_wp2_with fail
      go_ret
      exact ⟨rfl, H1.out, H2.out⟩
    | false =>
      obtain rfl : R = false := hR.symm
      clear hR
      go_enter Tryz.func64, Tryz.ntmps64
      go_wp2_with fail
      refine HA.out.mono ?_
      rintro e w' ⟨rfl, hb⟩
      have HB := Lib.hid hb
      clear hb HA
      go_wp2_with fail
      go_ret
      exact ⟨rfl, H.out.below (HB.out.alloc HB.out.size _), Kept1.of_below (HB.out.alloc HB.out.size _)⟩
  · have k1 : (tk == 1) = false := by simpa using h1
    have k1' : (tk != 1) = true := by simpa using h1
    by_cases h5 : tk = 5
    · subst h5
      cases q with
      | true =>
        obtain rfl : R = true := hR.symm
        clear hR
        go_enter Tryz.func64, Tryz.ntmps64
        go_wp2_with fail
        refine HA.out.mono ?_
        rintro e w' ⟨rfl, hb⟩
        have HB := Lib.hid hb
        clear hb HA
        go_wp2_with fail
        refine (HP.out (by decide) _ (HB.out.alloc HB.out.size _)).mono ?_
        rintro e w2 ⟨rfl, h1, h2⟩
        have H1 := Lib.hid h1
        have H2 := Lib.hid ((Kept1.of_below (HB.out.alloc HB.out.size _)).trans h2)
        clear h1 h2 HP
        go_wp2_with fail
        go_ret
        exact ⟨rfl, H1.out, H2.out⟩
      | false =>
        obtain rfl : R = false := hR.symm
        clear hR
        go_enter Tryz.func64, Tryz.ntmps64
        go_wp2_with fail
        refine HA.out.mono ?_
        rintro e w' ⟨rfl, hb⟩
        have HB := Lib.hid hb
        clear hb HA
        go_wp2_with fail
        go_ret
        exact ⟨rfl, H.out.below (HB.out.alloc HB.out.size _), Kept1.of_below (HB.out.alloc HB.out.size _)⟩
    · have k5 : (tk == 5) = false := by simpa using h5
      have k5' : (tk != 5) = true := by simpa using h5
      obtain rfl : R = false := by rw [← hR, k1, k5]; rfl
      clear hR
      go_enter Tryz.func64, Tryz.ntmps64
      go_wp2_with fail
      refine HA.out.mono ?_
      rintro e w' ⟨rfl, hb⟩
      have HB := Lib.hid hb
      clear hb HA
      go_wp2_with fail
      go_ret
      exact ⟨rfl, H.out.below (HB.out.alloc HB.out.size _), Kept1.of_below (HB.out.alloc HB.out.size _)⟩
end Go.Proofs.YtllgodaphoncnaaGreatDoor
