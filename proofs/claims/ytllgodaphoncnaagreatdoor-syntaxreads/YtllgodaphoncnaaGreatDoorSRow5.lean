/- A reader's calls: rows of parts that bind alike. -/
import Derived.Test.YtllgodaphoncnaaGreatDoorSRd7
import Derived.OrdersHeld
namespace Go.Proofs.YtllgodaphoncnaaGreatDoor
open Go.RowKit

set_option maxRecDepth 100000 in
set_option maxHeartbeats 1000000 in
theorem closed_any (I : RI) (w : World) (p : PS) (h : Rd I w p) (X : XV) :
    Calls Tryz.prog 154 #[I.ptr, X.v] w fun e w' => e = .returned X.v ∧ Rd I w' (needsP I.T kEnd p) ∧ Kept1 I.b w w' := by
  have HND := Lib.hid (fun W (hr : Rd I W p) => needs_any I W p hr kEnd)
  have H := Lib.hid h
  have HLT := Lib.hid h.lt
  have hb1 : Below w.heap.size w ((w.alloc (.cells #[.string X.o, .int .i64 X.x.k, .int .i64 X.x.i, .string X.x.s, .slice X.x.a X.x.n X.x.c, .string X.w, .string X.n, .slice X.a X.l X.c] 27 (0, 0))).alloc zero8) := ((Below.refl _ _).alloc (Nat.le_refl _) _).alloc (by simp) _
  have hg0 : ((w.alloc (.cells #[.string X.o, .int .i64 X.x.k, .int .i64 X.x.i, .string X.x.s, .slice X.x.a X.x.n X.x.c, .string X.w, .string X.n, .slice X.a X.l X.c] 27 (0, 0))).alloc zero8).heap[w.heap.size]? = some (.cells #[.string X.o, .int .i64 X.x.k, .int .i64 X.x.i, .string X.x.s, .slice X.x.a X.x.n X.x.c, .string X.w, .string X.n, .slice X.a X.l X.c] 27 (0, 0)) := (two_blocks _ _ _).1
  have hg1 : ((w.alloc (.cells #[.string X.o, .int .i64 X.x.k, .int .i64 X.x.i, .string X.x.s, .slice X.x.a X.x.n X.x.c, .string X.w, .string X.n, .slice X.a X.l X.c] 27 (0, 0))).alloc zero8).heap[w.heap.size + 1]? = some zero8 := (two_blocks _ _ _).2
  have HB1 := Lib.hid hb1
  have HG0 := Lib.hid hg0
  have HG1 := Lib.hid hg1
  clear h hb1 hg0 hg1
  unfold XV.v
  obtain ⟨xo, xx, xw, xn, xa, xl, xc⟩ := X
  dsimp only at *
  unfold RI.ptr at *
  go_enter Tryz.func154, Tryz.ntmps154
  go_wp2_with fail
  refine (HND.out _ (H.out.below HB1.out)).mono ?_
  rintro e w1 ⟨rfl, h1, h2⟩
  have hs := HLT.out
  have g0 := (h2.block w.heap.size (by simp; omega) (by omega)).trans HG0.out
  have g1 := (h2.block (w.heap.size + 1) (by simp) (by omega)).trans HG1.out
  have y0 : w1.cell? ⟨w.heap.size, 0, none⟩ = _ := cell_block g0 0
  have y1 : w1.cell? ⟨w.heap.size, 1, none⟩ = _ := cell_block g0 1
  have y2 : w1.cell? ⟨w.heap.size, 2, none⟩ = _ := cell_block g0 2
  have y3 : w1.cell? ⟨w.heap.size, 3, none⟩ = _ := cell_block g0 3
  have y4 : w1.cell? ⟨w.heap.size, 4, none⟩ = _ := cell_block g0 4
  have y5 : w1.cell? ⟨w.heap.size, 5, none⟩ = _ := cell_block g0 5
  have y6 : w1.cell? ⟨w.heap.size, 6, none⟩ = _ := cell_block g0 6
  have y7 : w1.cell? ⟨w.heap.size, 7, none⟩ = _ := cell_block g0 7
  have z0 : w1.cell? ⟨w.heap.size + 1, 0, none⟩ = _ := cell_block g1 0
  have z1 : w1.cell? ⟨w.heap.size + 1, 1, none⟩ = _ := cell_block g1 1
  have z2 : w1.cell? ⟨w.heap.size + 1, 2, none⟩ = _ := cell_block g1 2
  have z3 : w1.cell? ⟨w.heap.size + 1, 3, none⟩ = _ := cell_block g1 3
  have z4 : w1.cell? ⟨w.heap.size + 1, 4, none⟩ = _ := cell_block g1 4
  have z5 : w1.cell? ⟨w.heap.size + 1, 5, none⟩ = _ := cell_block g1 5
  have z6 : w1.cell? ⟨w.heap.size + 1, 6, none⟩ = _ := cell_block g1 6
  have z7 : w1.cell? ⟨w.heap.size + 1, 7, none⟩ = _ := cell_block g1 7
  have zf : ∀ o, w1.frozen? ⟨w.heap.size + 1, o, none⟩ = false := fun o => by simp [World.frozen?, g1]
  simp only [List.getElem?_toArray, List.getElem?_cons_zero, List.getElem?_cons_succ] at y0 y1 y2 y3 y4 y5 y6 y7 z0 z1 z2 z3 z4 z5 z6 z7
  have HE := Lib.hid (H.out.across h1 ((Kept1.of_below HB1.out).trans h2) (kept_set8 (w := w1) (w.heap.size + 1) (.string xo) (.int .i64 xx.k) (.int .i64 xx.i) (.string xx.s) (.slice xx.a xx.n xx.c) (.string xw) (.string xn) (.slice xa xl xc)) (by omega))
  clear h1 h2 g0 g1 HG0 HG1 HB1 HND
  go_wp2_with fail
  exact bodyPost_ret (v := .agg #[.string xo, .int .i64 xx.k, .int .i64 xx.i, .string xx.s, .slice xx.a xx.n xx.c, .string xw, .string xn, .slice xa xl xc]) (by simp [results, Tryz.results154, go_sem, z0, z1, z2, z3, z4, z5, z6, z7]) rfl ⟨rfl, HE.out⟩
/-- a row's state between two rounds: the tree so far lies at g -/
structure RowW (I : RI) (w W : World) (q : PS) (g : Nat) (X : XV) (t : Tr) : Prop where
  res : ResX I w W q
  at' : W.heap[g]? = some (.cells #[.string X.o, .int .i64 X.x.k, .int .i64 X.x.i, .string X.x.s, .slice X.x.a X.x.n X.x.c, .string X.w, .string X.n, .slice X.a X.l X.c] 27 (0, 0))
  new : w.heap.size + 1 ≤ g
  tree : TrAt (fun k => w.heap.size + 1 ≤ k ∧ k ≠ g) W t X
set_option maxRecDepth 100000 in
theorem RowW.go {I : RI} {w W W' : World} {q q' : PS} {g : Nat} {X : XV} {t : Tr} (h0 : I.b < w.heap.size) (h : RowW I w W q g X t) (hr : Rd I W' q') (hk : Kept1 I.b W W') : RowW I w W' q' g X t :=
  ⟨h.res.go h0 hr hk, (hk.block g (lt_block h.at') (by have := h.new; omega)).trans h.at', h.new, h.tree.kept (fun k hk' hl => hk.block k hl (by omega))⟩
set_option maxRecDepth 100000 in
theorem RowW.low {I : RI} {w W W' : World} {q : PS} {g : Nat} {X : XV} {t : Tr} (h : RowW I w W q g X t) (hb : Below W.heap.size W W') : RowW I w W' q g X t :=
  ⟨h.res.low hb, (hb.block g (lt_block h.at')).trans h.at', h.new, h.tree.low hb⟩
set_option maxRecDepth 100000 in
theorem RowW.cells {I : RI} {w W : World} {q : PS} {g : Nat} {X : XV} {t : Tr} (h : RowW I w W q g X t) :
    W.cell? ⟨g, 0, none⟩ = some (.string X.o) ∧ W.cell? ⟨g, 1, none⟩ = some (.int .i64 X.x.k) ∧ W.cell? ⟨g, 2, none⟩ = some (.int .i64 X.x.i) ∧ W.cell? ⟨g, 3, none⟩ = some (.string X.x.s) ∧ W.cell? ⟨g, 4, none⟩ = some (.slice X.x.a X.x.n X.x.c) ∧ W.cell? ⟨g, 5, none⟩ = some (.string X.w) ∧ W.cell? ⟨g, 6, none⟩ = some (.string X.n) ∧ W.cell? ⟨g, 7, none⟩ = some (.slice X.a X.l X.c) ∧ (∀ o, W.frozen? ⟨g, o, none⟩ = false) :=
  ⟨cell_block h.at' 0, cell_block h.at' 1, cell_block h.at' 2, cell_block h.at' 3, cell_block h.at' 4, cell_block h.at' 5, cell_block h.at' 6, cell_block h.at' 7, fun o => by simp [World.frozen?, h.at']⟩
set_option maxRecDepth 100000 in
theorem rowW_new {I : RI} {w w1 : World} {q : PS} {X : XV} {t : Tr} (h : ResX I w w1 q) (ht : TrAt (w.heap.size + 1 ≤ ·) w1 t X) : RowW I w (w1.alloc (.cells #[.string X.o, .int .i64 X.x.k, .int .i64 X.x.i, .string X.x.s, .slice X.x.a X.x.n X.x.c, .string X.w, .string X.n, .slice X.a X.l X.c] 27 (0, 0))) q w1.heap.size X t := by
  have hb : Below w1.heap.size w1 (w1.alloc (.cells #[.string X.o, .int .i64 X.x.k, .int .i64 X.x.i, .string X.x.s, .slice X.x.a X.x.n X.x.c, .string X.w, .string X.n, .slice X.a X.l X.c] 27 (0, 0))) := (Below.refl _ _).alloc (Nat.le_refl _) _
  exact ⟨h.low hb, heap_alloc_new _ _, lt_block h.res, (ht.mono (B' := fun k => w.heap.size + 1 ≤ k ∧ k ≠ w1.heap.size) (fun k hl hk => ⟨hk, by omega⟩)).low hb⟩
set_option maxRecDepth 100000 in
theorem rowW_step {I : RI} {w w6 w7 : World} {p q : PS} {G N : Nat} {Y X2 : XV} {t t2 : Tr} {S : ByteArray} {ow : List UInt8} (hS : st ow = S) (h0 : Rd I w p) (h : RowW I w w6 q G Y t) (ht2 : TrAt (N ≤ ·) w6 t2 X2) (hN : G < N)
    (hb : Below (w6.alloc (.cells #[.string Y.o, .int .i64 Y.x.k, .int .i64 Y.x.i, .string Y.x.s, .slice Y.x.a Y.x.n Y.x.c, .string Y.w, .string Y.n, .slice Y.a Y.l Y.c, .string X2.o, .int .i64 X2.x.k, .int .i64 X2.x.i, .string X2.x.s, .slice X2.x.a X2.x.n X2.x.c, .string X2.w, .string X2.n, .slice X2.a X2.l X2.c] 27 (0, 0))).heap.size
      (w6.alloc (.cells #[.string Y.o, .int .i64 Y.x.k, .int .i64 Y.x.i, .string Y.x.s, .slice Y.x.a Y.x.n Y.x.c, .string Y.w, .string Y.n, .slice Y.a Y.l Y.c, .string X2.o, .int .i64 X2.x.k, .int .i64 X2.x.i, .string X2.x.s, .slice X2.x.a X2.x.n X2.x.c, .string X2.w, .string X2.n, .slice X2.a X2.l X2.c] 27 (0, 0))) w7) :
    RowW I w (setX w7 G ⟨S, ⟨0, 0, ⟨#[]⟩, none, 0, 0⟩, ⟨#[]⟩, ⟨#[]⟩, some ⟨w6.heap.size, 0, none⟩, 2, 2⟩) q G ⟨S, ⟨0, 0, ⟨#[]⟩, none, 0, 0⟩, ⟨#[]⟩, ⟨#[]⟩, some ⟨w6.heap.size, 0, none⟩, 2, 2⟩ (mk2 ow t t2) ∧
      w7.cell? ⟨G, 0, none⟩ = some (.string Y.o) ∧ w7.cell? ⟨G, 1, none⟩ = some (.int .i64 Y.x.k) ∧ w7.cell? ⟨G, 2, none⟩ = some (.int .i64 Y.x.i) ∧ w7.cell? ⟨G, 3, none⟩ = some (.string Y.x.s) ∧ w7.cell? ⟨G, 4, none⟩ = some (.slice Y.x.a Y.x.n Y.x.c) ∧ w7.cell? ⟨G, 5, none⟩ = some (.string Y.w) ∧ w7.cell? ⟨G, 6, none⟩ = some (.string Y.n) ∧ w7.cell? ⟨G, 7, none⟩ = some (.slice Y.a Y.l Y.c) ∧ (∀ o, w7.frozen? ⟨G, o, none⟩ = false) := by
  subst hS
  have hb6 : Below w6.heap.size w6 (w6.alloc (.cells #[.string Y.o, .int .i64 Y.x.k, .int .i64 Y.x.i, .string Y.x.s, .slice Y.x.a Y.x.n Y.x.c, .string Y.w, .string Y.n, .slice Y.a Y.l Y.c, .string X2.o, .int .i64 X2.x.k, .int .i64 X2.x.i, .string X2.x.s, .slice X2.x.a X2.x.n X2.x.c, .string X2.w, .string X2.n, .slice X2.a X2.l X2.c] 27 (0, 0))) := (Below.refl _ _).alloc (Nat.le_refl _) _
  have hg6 : w7.heap[w6.heap.size]? = some (.cells (Y.cells ++ X2.cells).toArray 27 (0, 0)) := by
    rw [hb.block _ (by simp)]; exact heap_alloc_new _ _
  have hb7 : Below w6.heap.size w6 w7 := hb6.trans (hb.mono hb6.size)
  have hw7 := h.low hb7
  have hlG : G < w6.heap.size := lt_block h.at'
  have hnew := h.new
  have hl0 := h0.lt
  have tree : TrAt (fun k => w.heap.size + 1 ≤ k ∧ k ≠ G) w7 (mk2 ow t t2) ⟨st ow, ⟨0, 0, ⟨#[]⟩, none, 0, 0⟩, ⟨#[]⟩, ⟨#[]⟩, some ⟨w6.heap.size, 0, none⟩, 2, 2⟩ :=
    trAt_two hw7.tree ((ht2.low hb7).mono (fun k _ hk => ⟨by omega, by omega⟩)) hg6 ⟨by omega, by omega⟩ 2
  have hset := kept_set8 (w := w7) G (.string (st ow)) (.int .i64 0) (.int .i64 0) (.string ⟨#[]⟩) (.slice none 0 0) (.string ⟨#[]⟩) (.string ⟨#[]⟩) (.slice (some ⟨w6.heap.size, 0, none⟩) 2 2)
  have hcells := hw7.cells
  obtain ⟨r1, k1⟩ := h0.across hw7.res.rd hw7.res.kept hset (by omega)
  refine ⟨⟨⟨r1, k1, (hset.block _ (lt_block hw7.res.res) (by omega)).trans hw7.res.res⟩, heap_set8 hw7.at' _ _ _ _ _ _ _ _, hnew, tree.kept (fun k hk hl => hset.block k hl hk.2)⟩, hcells⟩
set_option maxRecDepth 100000 in
set_option maxHeartbeats 4000000 in
theorem row_any (I : RI) (w : World) (p : PS) (h : Rd I w p) (f : FuncId) (part : PS → Tr × PS) (hpart : Reads1 I.T part) (HF : ∀ W q, Rd I W q → p.at' ≤ q.at' → Calls Tryz.prog f #[I.ptr] W (PostT I W (part q)))
    (hcf : ∀ W, (callFunc f #[I.ptr]).run Tryz.prog W = .ok (.enter f #[I.ptr]) W) (ad : Option Addr) (g o c : Nat) (ops : List (List UInt8)) (hl : StrsAt w ad g o ops) (hn : ops.length ≤ 100) (hne : ∀ s ∈ ops, s ≠ []) (hg : ops ≠ [] → g ≠ I.b) :
    Calls Tryz.prog 60 #[I.ptr, .func (.func f) #[I.ptr] #[], .slice ad ops.length c] w (PostT I w (loopP I.T part ops (I.T.length + 1) (part p))) := by
  have HFF := Lib.hid HF
  have HPA := Lib.hid hpart
  have HR0 := Lib.hid (resX_new h)
  have H := Lib.hid h
  have HLT := Lib.hid h.lt
  have HTO := Lib.hid (fun W q (hr : Rd I W q) (hs : StrsAt W ad g o ops) => takesOne_any I W q hr ad g o c ops hs hn hg)
  have HST := Lib.hid (fun W (hk : Kept1 I.b w W) => hl.kept hk hg (fun _ _ => rfl))
  have hlen := I.len
  clear h HF hpart hl hg
  unfold RI.ptr at *
  obtain ⟨R, hR⟩ : ∃ R, loopP I.T part ops (I.T.length + 1) (part p) = R := ⟨_, rfl⟩
  rw [hR]
  have HRR := Lib.hid hR
  clear hR
  go_enter Tryz.func60, Tryz.ntmps60
  go_wp2_with fail
  refine (HFF.out _ _ HR0.out.rd (Nat.le_refl _)).mono ?_
  rintro e w1 ⟨X, rfl, ht, h1, h2⟩
  have HR1 := Lib.hid (HR0.out.go HLT.out h1 h2)
  have HW1 := Lib.hid (rowW_new HR1.out (ht.mono (B' := fun k => w.heap.size + 1 ≤ k) (fun k _ hk => by simpa using hk)))
  have hpq := (HPA.out p).mono
  have HPQ := Lib.hid hpq
  have HT1 := Lib.hid (HTO.out _ _ HW1.out.res.rd (HST.out _ HW1.out.res.kept))
  obtain ⟨x0, hx0⟩ : ∃ x, part p = x := ⟨_, rfl⟩
  have HPP := Lib.hid hx0
  rw [hx0] at HRR HW1 HT1 HPQ
  clear h1 h2 ht HR0 HR1 hpq hx0
  obtain ⟨t0, q0⟩ := x0
  dsimp only at HW1 HT1 HPQ
  have HQ1 : Hid (w.heap.size + 1 ≤ w1.heap.size) := Lib.hid HW1.out.new
  unfold XV.v
  go_wp2_with fail
  refine HT1.out.mono ?_
  rintro e w2 ⟨rfl, h1, h2⟩
  have HW2 := Lib.hid (HW1.out.go HLT.out h1 h2)
  clear h1 h2 HW1 HT1
  generalize w1.heap.size = G at *
  clear w1
  go_wp2_with fail
  go_loopw [8] (fun v wr => ∃ (Y : XV) (t : Tr) (q : PS) (n : Nat), v = .string (st (takesOneP I.T ops q).1) ∧ Hid (loopP I.T part ops (n + 1) (t, q) = R) ∧ I.T.length < q.at' + (n + 1) ∧ p.at' ≤ q.at' ∧ Hid (RowW I w wr (takesOneP I.T ops q).2 G Y t)) (fun v wr => 2 * (601 - atOf I.b wr) + (match v with | .string s => if s.size = 0 then 0 else 1 | _ => 0))
  case atStart => exact ⟨X, t0, q0, I.T.length, rfl, HRR, by omega, HPQ.out, HW2⟩
  case round =>
    clear HW2 HRR HPQ HPP
    obtain ⟨Y, t, q, n, rfl, HRR, hn, hpq, HRW⟩ := hrel
    rcases takesOne_cases (T := I.T) ops q with ⟨ho, -⟩ | ⟨ow, how, hit, ho⟩
    · have hR0 : (t, q) = R := by rw [← HRR.out, loopP, ho]; rfl
      subst hR0
      rw [ho] at HRW ⊢
      dsimp only at HRW ⊢
      rw [show st ([] : List UInt8) = ⟨#[]⟩ from rfl]
      obtain ⟨y0, y1, y2, y3, y4, y5, y6, y7, -⟩ := HRW.out.cells
      obtain ⟨z0, z1, z2, z3, z4, z5, z6, z7, zf⟩ := HRW.out.res.cells
      have hfin := HRW.out.res.fin H.out (HRW.out.tree.mono (B' := fun k => w.heap.size + 1 ≤ k) (fun k _ hk => hk.1))
      have HFIN := Lib.hid hfin
      clear hfin ho HRR hn hpq
      go_wp2_with fail
      exact bodyPost_ret (v := Y.v) (by simp [results, Tryz.results60, go_sem, XV.v, z0, z1, z2, z3, z4, z5, z6, z7]) rfl HFIN.out
    · have hs := hne _ how
      have hlt := (ahead_ne (isP_ne hit)).2.1
      rw [ho] at HRW ⊢
      dsimp only at HRW ⊢
      have HRR2 : Hid (loopP I.T part ops n (mk2 ow t (part (passP q)).1, (part (passP q)).2) = R) := Lib.hid (by
        rw [← HRR.out, loopP, ho]
        dsimp only
        rw [if_neg hs])
      have hpa := (HPA.out (passP q)).mono
      have hpT := (HPA.out (passP q)).len
      have hq1 : (passP q).at' = q.at' + 1 := rfl
      have HPQ := Lib.hid hpq
      have HN := Lib.hid hn
      have HLTQ := Lib.hid hlt
      have HFQ := Lib.hid (fun W (hr : Rd I W (passP q)) => HFF.out W _ hr (by rw [hq1]; omega))
      rw [hq1] at hpa
      obtain ⟨x1, hx1⟩ : ∃ x, part (passP q) = x := ⟨_, rfl⟩
      rw [hx1] at HFQ hpa hpT HRR2
      obtain ⟨t2, q2⟩ := x1
      dsimp only at hpa hpT HRR2
      have HPA2 := Lib.hid hpa
      have HAT : Hid (atOf I.b wr = q.at' + 1) := Lib.hid HRW.out.res.rd.atOf
      have es := toList_st ow
      obtain ⟨S, hS⟩ : ∃ S, st ow = S := ⟨_, rfl⟩
      have HS := Lib.hid hS
      have hsz := size_st ow
      rw [hS] at es hsz ⊢
      have hqq : (!ow.isEmpty) = true := by cases ow with | nil => exact absurd rfl hs | cons a l => rfl
      have hS0 : ¬ S.size = 0 := by rw [hsz]; intro e; exact hs (List.eq_nil_of_length_eq_zero e)
      have HS0 := Lib.hid hS0
      clear hS hS0 hsz hs HRR ho hpa hpq hn hlt hq1 hx1 how hit hpT
      go_wp2_with fail
      refine wp_region_any (by kernel_rfl) ?_
      change wpAny _ _ _ _ _ _ _ (World.drew _)
      have HW5 := Lib.hid (HRW.out.low (W' := wr.drew) (Below.refl _ _).drew)
      clear HRW
      generalize wr.drew = W5 at *
      refine wpAny_take (i := 0) (v := ?_) rfl (by kernel_rfl) (by kernel_rfl) (by kernel_rfl) (fun _ _ _ h => h) (Or.inl ⟨by rfl, ?_⟩) ?_
      rotate_left 1
      · intro w; go_simp; try with_reducible rfl
      refine wpAny_take (i := 2) (v := ?_) rfl (by kernel_rfl) (by kernel_rfl) (by kernel_rfl) (fun _ _ _ h => h) (Or.inl ⟨by rfl, ?_⟩) ?_
      rotate_left 1
      · intro w; go_simp; try with_reducible rfl
      refine wpAny_ready (rs := [1, 3]) (by kernel_rfl) (by simp) ?_
      refine AllReady.cons rfl (fun K hK => ?_) ?_
      · obtain ⟨y0, y1, y2, y3, y4, y5, y6, y7, -⟩ := HW5.out.cells
        go_simp
        refine hK _ _ ?_; clear hK K y0 y1 y2 y3 y4 y5 y6 y7
        refine wpAny_ready (rs := [3]) (by kernel_rfl) (by simp) ?_
        refine AllReady.cons rfl (fun K hK => ?_) AllReady.nil
        go_simp
        refine (HFQ.out _ HW5.out.res.rd).mono ?_
        rintro e w6 ⟨X2, rfl, ht2, h1, h2⟩
        have HS6 := Lib.hid (show W5.heap.size ≤ w6.heap.size from h2.size)
        have HW6 := Lib.hid (HW5.out.go HLT.out h1 h2)
        have HT6 := Lib.hid ht2
        clear h1 h2 ht2
        refine hK _ _ ?_; clear hK K
        refine wpAny_ready (rs := [4]) (by kernel_rfl) (by simp) ?_
        refine AllReady.cons rfl (fun K hK => ?_) AllReady.nil
        unfold XV.v
        go_simp
        refine hK _ _ ?_; clear hK K
        have hlG : G < W5.heap.size := lt_block HW5.out.at'
        have hw7 := fun w7 hb => rowW_step (S := S) (ow := ow) HS.out H.out HW6.out HT6.out hlG hb (w7 := w7)
        have HW7 := Lib.hid hw7
        clear hw7
        refine wpAny_ready (rs := [5]) (by kernel_rfl) (by simp) ?_
        refine AllReady.cons rfl (fun K hK => ?_) AllReady.nil
        go_simp
        refine (made_any _ _ _ _ _).mono ?_
        rintro e w7 ⟨rfl, hb7⟩
        obtain ⟨hrow, v0, v1, v2, v3, v4, v5, v6, v7, vf⟩ := HW7.out w7 hb7
        have HROW := Lib.hid hrow
        refine hK _ _ ?_; clear hK K hrow hb7 HW7 hlG
        unfold XV.v
        refine wpAny_ready (rs := [6]) (by kernel_rfl) (by simp) ?_
        refine AllReady.cons rfl (fun K hK => ?_) AllReady.nil
        go_simp
        refine hK _ _ ?_; clear hK K v0 v1 v2 v3 v4 v5 v6 v7 vf
        refine wpAny_done (by kernel_rfl) ?_ _
        have hrow := HROW.out
        dsimp only [setX, set8] at hrow
        generalize World.setCell _ _ _ = W8 at *
        have HR8 := Lib.hid hrow
        have HTO8 := Lib.hid (HTO.out W8 _ hrow.res.rd (HST.out _ hrow.res.kept))
        clear hrow HROW
        go_wp2_with fail
        refine HTO8.out.mono ?_
        rintro e w9 ⟨rfl, h1, h2⟩
        have HR9 := Lib.hid (HR8.out.go HLT.out h1 h2)
        clear h1 h2 HTO8 HR8
        go_wp2_with fail
        go_roundw
        case rel =>
          have hlen1 := HR9.out.res.rd.at'
          have hlen3 := (adv_takesOne (T := I.T) ops q2).mono
          try dsimp only at hlen1
          have hlen2 : q2.at' ≤ I.T.length := by omega
          have h3 := HPA2.out
          have h4 := HN.out
          have h5 := HPQ.out
          obtain ⟨n, rfl⟩ : ∃ m, n = m + 1 := ⟨n - 1, by omega⟩
          exact ⟨_, _, q2, n, rfl, HRR2, by omega, by omega, HR9⟩
        case measure =>
          have h1 := HR9.out.res.rd.atOf
          have h2 := HR9.out.res.rd.at'
          have h3 := HPA2.out
          have h4 := HAT.out
          have h5 := HLTQ.out
          dsimp only at h1 h2 ⊢
          rw [h1, h4]
          rw [if_neg HS0.out]
          rcases takesOne_cases (T := I.T) ops q2 with ⟨ho, -⟩ | ⟨s', -, hit, ho⟩
          · rw [ho] at h2 ⊢
            simp only [size_st, List.length_nil, if_true]
            dsimp only at h2 ⊢
            omega
          · rw [ho] at h2 ⊢
            have h6 : (passP q2).at' = q2.at' + 1 := rfl
            dsimp only at h2 ⊢
            rw [h6] at h2 ⊢
            split <;> omega
      refine AllReady.cons rfl (fun K hK => ?_) AllReady.nil
      go_simp
      refine (HFQ.out _ HW5.out.res.rd).mono ?_
      rintro e w6 ⟨X2, rfl, ht2, h1, h2⟩
      have HS6 := Lib.hid (show W5.heap.size ≤ w6.heap.size from h2.size)
      have HW6 := Lib.hid (HW5.out.go HLT.out h1 h2)
      have HT6 := Lib.hid ht2
      clear h1 h2 ht2
      refine hK _ _ ?_; clear hK K
      refine wpAny_ready (rs := [1]) (by kernel_rfl) (by simp) ?_
      refine AllReady.cons rfl (fun K hK => ?_) AllReady.nil
      obtain ⟨y0, y1, y2, y3, y4, y5, y6, y7, -⟩ := HW6.out.cells
      go_simp
      refine hK _ _ ?_; clear hK K y0 y1 y2 y3 y4 y5 y6 y7
      refine wpAny_ready (rs := [4]) (by kernel_rfl) (by simp) ?_
      refine AllReady.cons rfl (fun K hK => ?_) AllReady.nil
      unfold XV.v
      go_simp
      refine hK _ _ ?_; clear hK K
      have hlG : G < W5.heap.size := lt_block HW5.out.at'
      have hw7 := fun w7 hb => rowW_step (S := S) (ow := ow) HS.out H.out HW6.out HT6.out hlG hb (w7 := w7)
      have HW7 := Lib.hid hw7
      clear hw7
      refine wpAny_ready (rs := [5]) (by kernel_rfl) (by simp) ?_
      refine AllReady.cons rfl (fun K hK => ?_) AllReady.nil
      go_simp
      refine (made_any _ _ _ _ _).mono ?_
      rintro e w7 ⟨rfl, hb7⟩
      obtain ⟨hrow, v0, v1, v2, v3, v4, v5, v6, v7, vf⟩ := HW7.out w7 hb7
      have HROW := Lib.hid hrow
      refine hK _ _ ?_; clear hK K hrow hb7 HW7 hlG
      unfold XV.v
      refine wpAny_ready (rs := [6]) (by kernel_rfl) (by simp) ?_
      refine AllReady.cons rfl (fun K hK => ?_) AllReady.nil
      go_simp
      refine hK _ _ ?_; clear hK K v0 v1 v2 v3 v4 v5 v6 v7 vf
      refine wpAny_done (by kernel_rfl) ?_ _
      have hrow := HROW.out
      dsimp only [setX, set8] at hrow
      generalize World.setCell _ _ _ = W8 at *
      have HR8 := Lib.hid hrow
      have HTO8 := Lib.hid (HTO.out W8 _ hrow.res.rd (HST.out _ hrow.res.kept))
      clear hrow HROW
      go_wp2_with fail
      refine HTO8.out.mono ?_
      rintro e w9 ⟨rfl, h1, h2⟩
      have HR9 := Lib.hid (HR8.out.go HLT.out h1 h2)
      clear h1 h2 HTO8 HR8
      go_wp2_with fail
      go_roundw
      case rel =>
        have hlen1 := HR9.out.res.rd.at'
        have hlen3 := (adv_takesOne (T := I.T) ops q2).mono
        try dsimp only at hlen1
        have hlen2 : q2.at' ≤ I.T.length := by omega
        have h3 := HPA2.out
        have h4 := HN.out
        have h5 := HPQ.out
        obtain ⟨n, rfl⟩ : ∃ m, n = m + 1 := ⟨n - 1, by omega⟩
        exact ⟨_, _, q2, n, rfl, HRR2, by omega, by omega, HR9⟩
      case measure =>
        have h1 := HR9.out.res.rd.atOf
        have h2 := HR9.out.res.rd.at'
        have h3 := HPA2.out
        have h4 := HAT.out
        have h5 := HLTQ.out
        dsimp only at h1 h2 ⊢
        rw [h1, h4]
        rw [if_neg HS0.out]
        rcases takesOne_cases (T := I.T) ops q2 with ⟨ho, -⟩ | ⟨s', -, hit, ho⟩
        · rw [ho] at h2 ⊢
          simp only [size_st, List.length_nil, if_true]
          dsimp only at h2 ⊢
          omega
        · rw [ho] at h2 ⊢
          have h6 : (passP q2).at' = q2.at' + 1 := rfl
          dsimp only at h2 ⊢
          rw [h6] at h2 ⊢
          split <;> omega
end Go.Proofs.YtllgodaphoncnaaGreatDoor
