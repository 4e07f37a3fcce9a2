/- Guarded operations that only read. No program is named here; A reader in memory; the token ahead. -/
import Derived.Test.YtllgodaphoncnaaGreatDoorJ05
import Derived.Test.YtllgodaphoncnaaGreatDoorJ22
import Derived.Test.YtllgodaphoncnaaGreatDoorJ03
import Derived.Test.YtllgodaphoncnaaGreatDoorJ21
import Derived.Test.YtllgodaphoncnaaGreatDoorJ16
namespace Go.Proofs.YtllgodaphoncnaaGreatDoor
open Go.RowKit

section
variable {P : Program} {ops : Array Oper} {C : World → Prop}
set_option maxRecDepth 100000 in
theorem wpQuiet_load_midG {Q : Act → Prop} {rest : List Oper} {o : Oper} {a : Act} (hw : Region.wanted o (yielded ops a.tmps) = true) (ty : TypeId) (x : Operand) (ho : o.op = .load ty x)
    (b off : Nat) (hx : a.eval x = .pointer (some ⟨b, off, none⟩)) (cs : List Value) (d : TypeDesc) (hc : ∀ w', C w' → w'.rangeAt b off cs)
    (hu : P.underlying ty = some d) (hd : d.isRow = true) (hi : (P.info? ty).map (·.size) = some cs.length)
    (h : wpQuiet P ops C Q rest (a.put o.dst (.agg cs.toArray))) : wpQuiet P ops C Q (o :: rest) a := by
  refine BigFrame.wpQuiet_want hw fun K hK => ⟨.agg cs.toArray, fun w' hw' => ?_, hK _ h⟩
  unfold Oper.quietAt execOp
  simp only [ho, hx, Instr.loadAt, Instr.sureAddr, Sem.run_bind, Sem.run_pure, Result.andThen_ok, run_loadVar_mid w' b off ty cs d (hc w' hw') hu hd hi]
  exact ⟨rfl, rfl⟩
set_option maxRecDepth 100000 in
theorem wpQuiet_of_opG {Q : Act → Prop} {rest : List Oper} {o : Oper} {a : Act} (hw : Region.wanted o (yielded ops a.tmps) = true) (v : Value) (hv : ∀ w', C w' → (execOp a.eval o).run P w' = .ok (.value v) w')
    (h : wpQuiet P ops C Q rest (a.put o.dst v)) : wpQuiet P ops C Q (o :: rest) a := by
  refine BigFrame.wpQuiet_want hw fun K hK => ⟨v, fun w' hw' => ?_, hK _ h⟩
  unfold Oper.quietAt
  rw [hv w' hw']
  exact ⟨rfl, rfl⟩
end

end Go.Proofs.YtllgodaphoncnaaGreatDoor
namespace Go.Proofs.YtllgodaphoncnaaGreatDoor
open Go.RowKit

/-- a reader: its tokens, where they lie, and where it lies -/
structure RI where
  T : List Tk
  ad : Option Addr
  g : Nat
  o : Nat
  c : Nat
  b : Nat
  Ty : TypeId
  wide : ∀ t ∈ T, t.Wide
  len : T.length ≤ 600
  gb : T ≠ [] → g ≠ b
  hb : 9 ≤ b
def RI.ptr (I : RI) : Value := .pointer (some ⟨I.b, 0, none⟩)
def errE (p : PS) : Int := match p.err with | some x => x.1 | none => 0
def errP (p : PS) : Nat := match p.err with | some x => x.2 | none => 0
def RI.cells (I : RI) (p : PS) : Array Value := #[.slice I.ad I.T.length I.c, .int .i64 p.at', .int .i64 (errP p), .int .i64 (errE p)]
/-- a reader in memory -/
structure Rd (I : RI) (w : World) (p : PS) : Prop where
  lex : LexW w
  toks : TokAt w I.ad I.g I.o I.T
  blk : w.heap[I.b]? = some (.cells (I.cells p) I.Ty (0, 0))
  at' : p.at' ≤ I.T.length
  err : ∀ x, p.err = some x → x.1 ≠ 0
set_option maxRecDepth 100000 in
theorem LexW.kept {w w' : World} {b : Nat} (h : LexW w) (hk : Kept1 b w w') (hb : 9 ≤ b) (hs : b < w.heap.size) : LexW w' :=
  h.low (N := b) ⟨hk.os, hk.tape, hk.output, by have := hk.size; omega, fun k hlt => hk.block k (by omega) (by omega)⟩ hb
set_option maxRecDepth 100000 in
theorem RowsAt.kept {w w' : World} {ad : Option Addr} {g o k b : Nat} {α : Type} {f : α → List Value} {l : List α} (h : RowsAt w ad g o k f l) (hk : Kept1 b w w') (hg : l ≠ [] → g ≠ b) (hf : ∀ x ∈ l, (f x).length = k) : RowsAt w' ad g o k f l := by
  refine ⟨h.addr, fun i hi j hj => ?_⟩
  have h0 := h.cell i hi j hj
  rw [← h0]
  refine hk.cell ?_ (hg (by intro e; subst e; cases hi))
  rw [List.getElem?_eq_getElem (by rw [hf _ (List.getElem_mem _)]; exact hj)] at h0
  exact block_lt_of_cell h0
set_option maxRecDepth 100000 in
theorem RowsAt.below {w w' : World} {ad : Option Addr} {g o k : Nat} {α : Type} {f : α → List Value} {l : List α} (h : RowsAt w ad g o k f l) (hk : Below w.heap.size w w') (hf : ∀ x ∈ l, (f x).length = k) : RowsAt w' ad g o k f l := by
  refine ⟨h.addr, fun i hi j hj => ?_⟩
  have h0 := h.cell i hi j hj
  rw [← h0]
  refine hk.cell ?_
  rw [List.getElem?_eq_getElem (by rw [hf _ (List.getElem_mem _)]; exact hj)] at h0
  exact block_lt_of_cell h0
set_option maxRecDepth 100000 in
theorem Rd.lt {I : RI} {w : World} {p : PS} (h : Rd I w p) : I.b < w.heap.size := lt_block h.blk
set_option maxRecDepth 100000 in
theorem Rd.kept {I : RI} {w w' : World} {p q : PS} (h : Rd I w p) (hk : Kept1 I.b w w') (hb : w'.heap[I.b]? = some (.cells (I.cells q) I.Ty (0, 0))) (ha : q.at' ≤ I.T.length) (he : ∀ x, q.err = some x → x.1 ≠ 0) : Rd I w' q :=
  ⟨h.lex.kept hk I.hb h.lt, h.toks.kept hk I.gb (fun _ _ => rfl), hb, ha, he⟩
set_option maxRecDepth 100000 in
theorem Rd.below {I : RI} {w w' : World} {p : PS} (h : Rd I w p) (hb : Below w.heap.size w w') : Rd I w' p :=
  h.kept (.of_below hb) ((hb.block _ h.lt).trans h.blk) h.at' h.err
set_option maxRecDepth 100000 in
theorem Rd.c0 {I : RI} {w : World} {p : PS} (h : Rd I w p) : w.cell? ⟨I.b, 0, none⟩ = some (.slice I.ad I.T.length I.c) := cell_block h.blk 0
set_option maxRecDepth 100000 in
theorem Rd.c1 {I : RI} {w : World} {p : PS} (h : Rd I w p) : w.cell? ⟨I.b, 1, none⟩ = some (.int .i64 p.at') := cell_block h.blk 1
set_option maxRecDepth 100000 in
theorem Rd.c2 {I : RI} {w : World} {p : PS} (h : Rd I w p) : w.cell? ⟨I.b, 2, none⟩ = some (.int .i64 (errP p)) := cell_block h.blk 2
set_option maxRecDepth 100000 in
theorem Rd.c3 {I : RI} {w : World} {p : PS} (h : Rd I w p) : w.cell? ⟨I.b, 3, none⟩ = some (.int .i64 (errE p)) := cell_block h.blk 3
set_option maxRecDepth 100000 in
theorem Rd.fz {I : RI} {w : World} {p : PS} (h : Rd I w p) (o : Nat) : w.frozen? ⟨I.b, o, none⟩ = false := by simp [World.frozen?, h.blk]
set_option maxRecDepth 100000 in
theorem Rd.tok {I : RI} {w : World} {p : PS} (h : Rd I w p) (hl : p.at' < I.T.length) : I.ad = some ⟨I.g, I.o, none⟩ ∧ w.cell? ⟨I.g, I.o + p.at' * 3, none⟩ = some (.int .i64 I.T[p.at'].k) ∧ w.cell? ⟨I.g, I.o + p.at' * 3 + 1, none⟩ = some (.string (st I.T[p.at'].s)) ∧ w.cell? ⟨I.g, I.o + p.at' * 3 + 2, none⟩ = some (.int .i64 I.T[p.at'].n) := by
  refine ⟨h.toks.addr (by intro e; rw [e] at hl; cases hl), ?_, ?_, ?_⟩
  · exact h.toks.cell p.at' hl 0 (by omega)
  · exact h.toks.cell p.at' hl 1 (by omega)
  · exact h.toks.cell p.at' hl 2 (by omega)

set_option maxRecDepth 100000 in
set_option maxHeartbeats 4000000 in
theorem ahead_any (I : RI) (w : World) (p : PS) (h : Rd I w p) :
    Calls Tryz.prog 94 #[I.ptr] w fun e w' => e = .returned (aheadP I.T p).val ∧ Below w.heap.size w w' := by
  obtain ⟨W, hW⟩ : ∃ W, w.alloc (.cells #[.int .i64 0, .string ⟨#[]⟩, .int .i64 0] 41) = W := ⟨_, rfl⟩
  have hbW : Below w.heap.size w W := by rw [← hW]; exact (Below.refl _ _).alloc (Nat.le_refl _) _
  have hres : W.heap[w.heap.size]? = some (.cells #[.int .i64 0, .string ⟨#[]⟩, .int .i64 0] 41 (0, 0)) := by rw [← hW]; exact heap_alloc_new _ _
  have hR := h.below hbW
  have HBW := Lib.hid hbW
  have HRES := Lib.hid hres
  have HW := Lib.hid hW
  have HRD := Lib.hid hR
  have r0 := fun m : Bl W => (hR.below m.below).c0
  have r1 := fun m : Bl W => (hR.below m.below).c1
  have r3 := fun m : Bl W => (hR.below m.below).c3
  have hlen := I.len
  have hat := h.at'
  have herr := h.err
  have hno : noTk.val = .agg #[.int .i64 0, .string ⟨#[]⟩, .int .i64 0] := rfl
  have HNO := Lib.hid hno
  clear hW hbW hres hR h hno
  unfold RI.ptr
  cases he : p.err with
  | some x =>
    have e0 : aheadP I.T p = noTk := ahead_err (by rw [he]; simp)
    have e3 : errE p = x.1 := by unfold errE; rw [he]
    have hx : (x.1 != 0) = true := by simpa using herr x he
    rw [e0]
    rw [e3] at r3
    clear e0 e3 he herr
    obtain ⟨E, hE⟩ : ∃ E, x.1 = E := ⟨_, rfl⟩
    rw [hE] at r3 hx
    clear hE
    go_enter Tryz.func94, Tryz.ntmps94
    go_wp2_with fail
    rw [HW.out]
    refine wp_region_quietB (by kernel_rfl) (by kernel_rfl) ?_
    iterate 31 (go_big_quiet_step (fail))
    refine wpQuiet_nil ?_
    intro m
    have HBM := Lib.hid (HBW.out.trans (m.below.mono HBW.out.size))
    have hres := (m.below.block _ (lt_block HRES.out)).trans HRES.out
    clear r0 r1 r3
    generalize m.wr = W2 at *
    clear m
    have x0 := cell_block hres 0
    have x1 := cell_block hres 1
    have x2 := cell_block hres 2
    have xf : ∀ o, W2.frozen? ⟨w.heap.size, o, none⟩ = false := fun o => by simp [World.frozen?, hres]
    simp only [List.getElem?_toArray, List.getElem?_cons_zero, List.getElem?_cons_succ] at x0 x1 x2
    go_wp2_with fail
    exact bodyPost_ret (v := .agg #[.int .i64 0, .string ⟨#[]⟩, .int .i64 0]) (by simp [results, Tryz.results94, go_sem, x0, x1, x2]) rfl ⟨by rw [HNO.out], ((HBM.out.setCell (Nat.le_refl _) _).setCell (Nat.le_refl _) _).setCell (Nat.le_refl _) _⟩
  | none =>
    have e3 : errE p = 0 := by unfold errE; rw [he]
    rw [e3] at r3
    have hx : ((0 : Int) != 0) = false := rfl
    rcases Nat.lt_or_eq_of_le hat with hl | hl
    case inr =>
      have e0 : aheadP I.T p = noTk := by
        unfold aheadP; rw [he]; simp only [Option.isSome_none, Bool.false_eq_true, if_false]
        rw [List.getElem?_eq_none (by omega)]
      have hq : ((p.at' : Int) == (I.T.length : Int)) = true := by simp; omega
      rw [e0]
      clear e0 e3 he herr
      obtain ⟨n, hn⟩ : ∃ n, I.T.length = n := ⟨_, rfl⟩
      obtain ⟨k, hk⟩ : ∃ k, p.at' = k := ⟨_, rfl⟩
      rw [hn] at r0 hlen hq
      rw [hk] at r1 hq
      clear hat hl hn hk
      go_enter Tryz.func94, Tryz.ntmps94
      go_wp2_with fail
      rw [HW.out]
      refine wp_region_quietB (by kernel_rfl) (by kernel_rfl) ?_
      iterate 31 (go_big_quiet_step (fail))
      refine wpQuiet_nil ?_
      intro m
      have HBM := Lib.hid (HBW.out.trans (m.below.mono HBW.out.size))
      have hres := (m.below.block _ (lt_block HRES.out)).trans HRES.out
      clear r0 r1 r3
      generalize m.wr = W2 at *
      clear m
      have x0 := cell_block hres 0
      have x1 := cell_block hres 1
      have x2 := cell_block hres 2
      have xf : ∀ o, W2.frozen? ⟨w.heap.size, o, none⟩ = false := fun o => by simp [World.frozen?, hres]
      simp only [List.getElem?_toArray, List.getElem?_cons_zero, List.getElem?_cons_succ] at x0 x1 x2
      go_wp2_with fail
      exact bodyPost_ret (v := .agg #[.int .i64 0, .string ⟨#[]⟩, .int .i64 0]) (by simp [results, Tryz.results94, go_sem, x0, x1, x2]) rfl ⟨by rw [HNO.out], ((HBM.out.setCell (Nat.le_refl _) _).setCell (Nat.le_refl _) _).setCell (Nat.le_refl _) _⟩
    case inl =>
      have hq : ((p.at' : Int) == (I.T.length : Int)) = false := by simp; omega
      obtain ⟨t, ht⟩ : ∃ t, I.T[p.at'] = t := ⟨_, rfl⟩
      have e0 : aheadP I.T p = if formB t then t else noTk := by
        unfold aheadP; rw [he]; simp only [Option.isSome_none, Bool.false_eq_true, if_false]
        rw [List.getElem?_eq_getElem hl, ht]
      have htw : t.Wide := by rw [← ht]; exact I.wide _ (List.getElem_mem _)
      have F : Hid (∀ W' : World, Below W.heap.size W W' → Calls Tryz.prog 53 #[t.val] W' fun e w' => e = .returned (.bool (formB t)) ∧ Below W'.heap.size W' w') := Lib.hid (fun W' hb => wformed_any W' (HRD.out.below hb).lex t htw)
      have t0 := fun m : Bl W => ((HRD.out.below m.below).tok hl).2.1
      have t1 := fun m : Bl W => ((HRD.out.below m.below).tok hl).2.2.1
      have t2 := fun m : Bl W => ((HRD.out.below m.below).tok hl).2.2.2
      have had := (HRD.out.tok hl).1
      rw [had] at r0
      rw [ht] at t0 t1 t2
      rw [e0]
      obtain ⟨tk, ts, tn⟩ := t
      have R0 := Lib.hid (fun W' (hb : Below W.heap.size W W') => (HRD.out.below hb).c0)
      rw [had] at R0
      have R1 := Lib.hid (fun W' (hb : Below W.heap.size W W') => (HRD.out.below hb).c1)
      have T0 := Lib.hid (fun W' (hb : Below W.heap.size W W') => ((HRD.out.below hb).tok hl).2)
      rw [ht] at T0
      unfold Tk.val Tk.cells at F ⊢
      dsimp only at F t0 t1 t2 T0 ⊢
      clear e0 e3 he herr had htw hat ht
      obtain ⟨n, hn⟩ : ∃ n, I.T.length = n := ⟨_, rfl⟩
      obtain ⟨k, hk⟩ : ∃ k, p.at' = k := ⟨_, rfl⟩
      rw [hn] at r0 hlen hq hl R0
      rw [hk] at r1 hq hl t0 t1 t2 R1 T0
      obtain ⟨f, hf⟩ : ∃ f, formB ⟨tk, ts, tn⟩ = f := ⟨_, rfl⟩
      rw [hf] at F ⊢
      clear hn hk hf
      obtain ⟨s, hs⟩ : ∃ s, st ts = s := ⟨_, rfl⟩
      have hV : Value.agg (if f = true then ({ k := tk, s := ts, n := tn } : Tk) else noTk).cells.toArray = if f = true then .agg #[.int .i64 tk, .string s, .int .i64 tn] else .agg #[.int .i64 0, .string ⟨#[]⟩, .int .i64 0] := by
        rw [← hs]; cases f <;> rfl
      have HV := Lib.hid hV
      have hV' : Value.agg #[Value.int .i64 (if f = true then ({ k := tk, s := ts, n := tn } : Tk) else noTk).k, .string (st (if f = true then ({ k := tk, s := ts, n := tn } : Tk) else noTk).s), .int .i64 (if f = true then ({ k := tk, s := ts, n := tn } : Tk) else noTk).n] = if f = true then .agg #[.int .i64 tk, .string s, .int .i64 tn] else .agg #[.int .i64 0, .string ⟨#[]⟩, .int .i64 0] := hV
      rw [hs] at F t1 T0
      first | rw [hV'] | rw [hV]
      clear hV hV' hs
      go_enter Tryz.func94, Tryz.ntmps94
      go_wp2_with fail
      rw [HW.out]
      refine wp_region_quietB (by kernel_rfl) (by kernel_rfl) ?_
      iterate 31 (go_big_quiet_step ((go_at_call 53; with_reducible exact Calls.quiet_b (F.out _ (Bl.below _)))))
      refine wpQuiet_nil ?_
      intro m
      have HBM := Lib.hid (HBW.out.trans (m.below.mono HBW.out.size))
      have hres := (m.below.block _ (lt_block HRES.out)).trans HRES.out
      have HR0 := Lib.hid (fun m2 : Bl m.wr => R0.out m2.wr (m.below.trans (m2.below.mono m.below.size)))
      have HR1 := Lib.hid (fun m2 : Bl m.wr => R1.out m2.wr (m.below.trans (m2.below.mono m.below.size)))
      have HT0 := Lib.hid (fun m2 : Bl m.wr => T0.out m2.wr (m.below.trans (m2.below.mono m.below.size)))
      clear r0 r1 r3 t0 t1 t2 F R0 R1 T0
      generalize m.wr = W2 at *
      clear m
      cases f with
      | false =>
        clear HR0 HR1 HT0
        have x0 := cell_block hres 0
        have x1 := cell_block hres 1
        have x2 := cell_block hres 2
        have xf : ∀ o, W2.frozen? ⟨w.heap.size, o, none⟩ = false := fun o => by simp [World.frozen?, hres]
        simp only [List.getElem?_toArray, List.getElem?_cons_zero, List.getElem?_cons_succ] at x0 x1 x2
        go_wp2_with fail
        exact bodyPost_ret (v := .agg #[.int .i64 0, .string ⟨#[]⟩, .int .i64 0]) (by simp [results, Tryz.results94, go_sem, x0, x1, x2]) rfl ⟨rfl, ((HBM.out.setCell (Nat.le_refl _) _).setCell (Nat.le_refl _) _).setCell (Nat.le_refl _) _⟩
      | true =>
        have HRES2 := Lib.hid hres
        clear hres
        go_wp2_with fail
        have r0 := HR0.out
        have r1 := HR1.out
        have t0 := fun m : Bl W2 => (HT0.out m).1
        have t1 := fun m : Bl W2 => (HT0.out m).2.1
        have t2 := fun m : Bl W2 => (HT0.out m).2.2
        refine wp_region_quiet_tailB 10 (by kernel_rfl) (by kernel_rfl) ?_
        simp only [List.take_succ_cons, List.take_zero, List.drop_succ_cons, List.drop_zero]
        iterate 10 (go_big_quiet_step (fail))
        refine wpQuiet_nil ?_
        intro m
        have HBM3 := Lib.hid (HBM.out.trans (m.below.mono HBM.out.size))
        have hres := (m.below.block _ (lt_block HRES2.out)).trans HRES2.out
        clear r0 r1 t0 t1 t2 HR0 HR1 HT0
        generalize m.wr = W3 at *
        clear m
        have x0 := cell_block hres 0
        have x1 := cell_block hres 1
        have x2 := cell_block hres 2
        have xf : ∀ o, W3.frozen? ⟨w.heap.size, o, none⟩ = false := fun o => by simp [World.frozen?, hres]
        simp only [List.getElem?_toArray, List.getElem?_cons_zero, List.getElem?_cons_succ] at x0 x1 x2
        go_wp2_with fail
        exact bodyPost_ret (v := .agg #[.int .i64 tk, .string s, .int .i64 tn]) (by simp [results, Tryz.results94, go_sem, x0, x1, x2]) rfl ⟨rfl, ((HBM3.out.setCell (Nat.le_refl _) _).setCell (Nat.le_refl _) _).setCell (Nat.le_refl _) _⟩
end Go.Proofs.YtllgodaphoncnaaGreatDoor
