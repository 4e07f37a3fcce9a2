/- The document's write. -/
import Derived.Test.YtammnjfccjfbhaaDDo4
import Derived.OrdersHeld
import Derived.Test.YtammnjfccjfbhaaDWrite
namespace Go.Proofs.Ytammnjfccjfbhaa
open Go.RowKit

theorem wpOp_k {P : Program} {ops : Array Oper} {Q : Exit → Act → World → Prop} {i : Nat} {o : Oper} {K : Act → World → Prop} {a : Act} {w : World} (ho : ops[i]? = some o)
    (h : ∀ K' : Act → World → Prop, (∀ a w, K a w → K' a w) → if Region.wanted o (yielded ops a.tmps) = true then Oper.wp P o a w K' Q else K' (a.put o.dst undef) w) : wpOp P ops Q i K a w := by
  unfold wpOp
  rw [ho]
  have := h K fun _ _ h => h
  simp only
  split
  · rename_i hw; rw [if_pos hw] at this; exact .inl this
  · rename_i hw; rw [if_neg hw] at this; exact this
/-- one more write: the row lies where it lay, or in a new block -/
theorem step_append_r {ops : Array Oper} {o : Oper} {a : Act} {w : World} {K : Act → World → Prop} {Q : Exit → Act → World → Prop} {E : Prop} (hgd : o.guard = none) (s x : Operand)
    (ho : o.op = .call { callee := .builtin .append, args := #[s, x], argTypes := #[44, 44] })
    (N : Nat) (ws : List RWr) (r : RWr) (v : Value) (hs : a.eval s = v) (hown : w.ownsRow N 71 3 v ws.length (cellsR ws)) (g : Nat) (hx : a.eval x = .slice (some ⟨g, 0, none⟩) 1 1)
    (hsrc : w.heap[g]? = some (.cells r.cells.toArray 71 (0, 0))) (hlen : ws.length ≤ 100000) (hbase : N ≤ w.heap.size)
    (k : ∀ g' cap' w', w'.ownsRow N 71 3 (.slice (some ⟨g', 0, none⟩) (ws.length + 1) cap') (ws.length + 1) (cellsR (ws ++ [r])) → w.grownBy w' v.ownBlock → (v.ownBlock = some g' ∨ g' = w.heap.size) →
      K (a.put o.dst (.slice (some ⟨g', 0, none⟩) (ws.length + 1) cap')) w') : if Region.wanted o (yielded ops a.tmps) = true then Oper.wp Try.prog o a w K Q else E := by
  obtain ⟨i, hi, hz, hsz, hby⟩ := info_parts infoW3
  have hu := Try.underlying44
  have hnews : ∀ j u, r.cells[j]? = some u → w.cell? ((⟨g, 0, none⟩ : Addr).add j) = some u := by
    intro j u hj
    rw [Addr.add_mid, Nat.zero_add, cell_block hsrc]
    simpa using hj
  have hl7 : r.cells.length = 1 * 3 := rfl
  obtain ⟨v', w', hr, h2, h3, _⟩ := run_append_own_wide (P := Try.prog) w N 44 o.type 71 i _ 3 32 hu hi hz hsz hby rfl (by omega) v ws.length (cellsR ws) hown ⟨g, 0, none⟩ 1 1 r.cells hl7 hnews (one_R r) (by unfold maxLen; omega) (by omega) hbase
  have hblk : v'.ownBlock = v.ownBlock ∨ v'.ownBlock = some w.heap.size := by
    rcases hown.2 with ⟨rfl, hn⟩ | ⟨g', cap, cur, rfl, hbg, hg, hnc, hcm, hcs, htake⟩
    · have e := run_append_nil (P := Try.prog) w 44 o.type 71 i _ hu hi hz ⟨g, 0, none⟩ 1 1 r.cells (by rw [hsz, hl7]) hnews (by omega) (by omega) (by rw [hby]; omega)
      rw [hr] at e
      injection e with e1 e2
      exact .inr (by rw [e1]; rfl)
    · by_cases hroom : ws.length + 1 ≤ cap
      · have e := run_append_room (P := Try.prog) w 44 o.type 71 i hu hi g' ws.length cap cur hg ⟨g, 0, none⟩ 1 1 r.cells (by rw [hsz, hl7]) hnews (one_R r) hroom (by rw [hsz, hl7, hcs]; omega)
        rw [hr] at e
        injection e with e1 e2
        exact .inl (by rw [e1]; rfl)
      · have holds : ∀ j u, (cellsR ws)[j]? = some u → w.cell? ((⟨g', 0, none⟩ : Addr).add j) = some u := hown.cells (g := g') rfl
        have e := run_append_grow (P := Try.prog) w 44 o.type 71 i _ hu hi hz ⟨g', 0, none⟩ ws.length cap (cellsR ws) (by rw [hsz]; exact hown.1) holds ⟨g, 0, none⟩ 1 1 r.cells (by rw [hsz, hl7]) hnews (by omega) (by omega) (growslice_fits_wide (by omega) (by rw [hby]; omega))
        rw [hr] at e
        injection e with e1 e2
        exact .inr (by rw [e1]; rfl)
  rw [← cellsR_snoc] at h2
  obtain ⟨g', cap', rfl⟩ := ownsRow_succ h2
  rw [if_pos (by simp [Region.wanted, hgd])]
  unfold Oper.wp execOp
  simp only [ho, resolve, invoke, builtin, Sem.run_bind, Sem.run_pure, Result.andThen_ok, List.map_toArray, List.map_cons, List.map_nil, hs, hx, hr]
  refine k g' cap' w' h2 h3 ?_
  rcases hblk with h | h
  · exact .inl h.symm
  · injection h with h; exact .inr h
theorem rgrown_d {w2 w2' w3 : World} {v : Value} (hb : Below w2.heap.size w2 w2') (hgr : w2'.grownBy w3 v.ownBlock) (k : Nat) (hk : k < w2.heap.size) (hv : v.ownBlock ≠ some k) : w3.heap[k]? = w2.heap[k]? :=
  (hgr.block k (by have := hb.size; omega) (fun e => hv e.symm)).trans (hb.block k hk)
theorem rsix_of {w2 w2' w3 : World} {N d g' cap' : Nat} {v : Value} {t : RSt} {r : RWr} (D : RAt w2 N d v t) (hb : Below w2.heap.size w2 w2')
    (hown : w3.ownsRow N 71 3 (.slice (some ⟨g', 0, none⟩) (t.L.length + 1) cap') (t.L.length + 1) (cellsR (t.L ++ [r]))) (hgr : w2'.grownBy w3 v.ownBlock) (hg' : v.ownBlock = some g' ∨ g' = w2'.heap.size) :
    Did w2 N d v ⟨t.n, t.L ++ [r], t.fuse⟩ (.slice (some ⟨g', 0, none⟩) (t.L.length + 1) cap') (w3.setCell ⟨d, 1, none⟩ (.slice (some ⟨g', 0, none⟩) (t.L.length + 1) cap')) := by
  have hsz := hb.size
  have hnd : g' ≠ d := fun e => by
    subst e
    rcases hg' with h | h
    · exact D.nd h
    · have := lt_block D.blk; omega
  have hbd := (rgrown_d hb hgr d (lt_block D.blk) D.nd).trans D.blk
  have oth : ∀ k, k ≠ d → (w3.setCell ⟨d, 1, none⟩ (.slice (some ⟨g', 0, none⟩) (t.L.length + 1) cap')).heap[k]? = w3.heap[k]? := fun k hk => Below.heap_setCell _ _ _ _ (by exact hk)
  refine ⟨⟨heap_set hbd 1 _, ?_, (fun e => hnd (by injection e)), D.dN⟩, ?_, fun k hk => ?_⟩
  · rw [List.length_append]
    exact own_same hown fun g hg => by injection hg with hg; subst hg; exact oth _ hnd
  · have k1 : KeptF (footR d v) w2 w2' := .of_below hb
    have k2 : KeptF (footR d v) w2' w3 := .of_grown hgr fun b e => .inr e
    have k3 : KeptF (footR d v) w3 (w3.setCell ⟨d, 1, none⟩ (.slice (some ⟨g', 0, none⟩) (t.L.length + 1) cap')) := .of_kept1 ((Kept1.refl d w3).setCell _ (.inl rfl) _) (fun _ => .inl rfl)
    exact (k1.trans k2 fun _ _ h => h).trans k3 fun _ _ h => h
  · injection hk with hk
    subst hk
    rcases hg' with h | h
    · exact .inl h
    · exact .inr (by show w2.heap.size ≤ g'; omega)
/-- what the region reads of the call -/
structure OHeld (O : Nat) (x : OpR) (w : World) : Prop where
  c1 : w.cell? ⟨O, 1, none⟩ = some (.int .i64 x.i)
  c3 : w.cell? ⟨O, 3, none⟩ = some (.slice x.ba x.l.length x.bc)
  src : BSrc w (.slice x.ba x.l.length x.bc) x.l
theorem OHeld.same {O : Nat} {x : OpR} {w w' : World} (h : OHeld O x w) (h1 : w'.heap[O]? = w.heap[O]?) (h2 : ∀ g o n c, Value.slice x.ba x.l.length x.bc = .slice (some ⟨g, o, none⟩) n c → x.l ≠ [] → w'.heap[g]? = w.heap[g]?) : OHeld O x w' := by
  refine ⟨(World.cell?_of_block (w := w) (a := ⟨O, 1, none⟩) h1).trans h.c1, (World.cell?_of_block (w := w) (a := ⟨O, 3, none⟩) h1).trans h.c3, ?_⟩
  rcases h.src with h' | ⟨g, o, cp, e, hc⟩
  · exact .inl h'
  · refine .inr ⟨g, o, cp, e, fun j hj => ?_⟩
    exact (World.cell?_of_block (w := w) (a := ⟨g, o + j, none⟩) (h2 g o _ _ e (by intro e; rw [e] at hj; cases hj))).trans (hc j hj)
theorem OHeld.setD {O d : Nat} {x : OpR} {w : World} (h : OHeld O x w) (h1 : O ≠ d) (h2 : ∀ g o n c, Value.slice x.ba x.l.length x.bc = .slice (some ⟨g, o, none⟩) n c → x.l ≠ [] → g ≠ d) {j : Nat} {u : Value} : OHeld O x (w.setCell ⟨d, j, none⟩ u) :=
  h.same (Below.heap_setCell _ _ _ _ (by exact h1)) fun g o n c e hn => Below.heap_setCell _ _ _ _ (by exact h2 g o n c e hn)
/-- the bytes that are handed in -/
structure OpSrc (x : OpR) (w : World) : Prop where
  src : BSrc w (.slice x.ba x.l.length x.bc) x.l
theorem BSrc.same {x : OpR} {w w' : World} (h : BSrc w (.slice x.ba x.l.length x.bc) x.l) (h2 : ∀ g o n c, Value.slice x.ba x.l.length x.bc = .slice (some ⟨g, o, none⟩) n c → x.l ≠ [] → w'.heap[g]? = w.heap[g]?) : BSrc w' (.slice x.ba x.l.length x.bc) x.l := by
  rcases h with h' | ⟨g, o, cp, e, hc⟩
  · exact .inl h'
  · exact .inr ⟨g, o, cp, e, fun j hj => (World.cell?_of_block (w := w) (a := ⟨g, o + j, none⟩) (h2 g o _ _ e (by intro e; rw [e] at hj; cases hj))).trans (hc j hj)⟩
theorem BSrc.lt {w : World} {v : Value} {l : List UInt8} (h : BSrc w v l) : ∀ g o n c, v = .slice (some ⟨g, o, none⟩) n c → l ≠ [] → g < w.heap.size := fun g o n c e hn => by
  rcases h with ⟨ad, cp, e', h'⟩ | ⟨g', o', cp, e', hc⟩
  · exact absurd h' hn
  · rw [e] at e'
    injection e' with e1
    injection e1 with e1
    injection e1 with e1
    subst e1
    exact block_lt_of_cell (hc 0 (List.length_pos_iff.2 hn))
set_option maxRecDepth 100000 in
set_option maxHeartbeats 4000000 in
theorem do_write (w : World) (N d : Nat) (v : Value) (t : RSt) (h : RAt w N d v t) (x : OpR) (hq : x.k.toNat % 5 = 0) (hf : t.fuse ≠ 0) (hi : 0 ≤ x.i ∧ x.i < t.n) (hl : x.l.length = 64) (hsrc : BSrc w (.slice x.ba x.l.length x.bc) x.l) (hap : ∀ g o n c, Value.slice x.ba x.l.length x.bc = .slice (some ⟨g, o, none⟩) n c → x.l ≠ [] → g ≠ d ∧ v.ownBlock ≠ some g) (hL : t.L.length ≤ 100000) (hfb : t.fuse ≤ 9223372036854775807) :
    Calls Try.prog 17 #[.pointer (some ⟨d, 0, none⟩), x.val] w fun e w' => e = .returned (.tuple #[noS, .int .i64 0]) ∧ ∃ v', Did w N d v ⟨t.n, t.L ++ [⟨x.i, x.l, false⟩], if 0 < t.fuse then t.fuse - 1 else t.fuse⟩ v' w' := by
  obtain ⟨c0, c1, c2⟩ := h.cell
  have hd := lt_block h.blk
  have hk := x.k.toNat_lt
  have f1 := h.frozen 1
  have f2 := h.frozen 2
  unfold OpR.val
  try unfold noS
  obtain ⟨W, hW⟩ : ∃ W, w.alloc (.cells #[.int .u8 (x.k.toNat : Int), .int .i64 x.i, .int .i64 x.n, .slice x.ba x.l.length x.bc, .slice x.pa x.bs.length x.pc] 33) = W := ⟨_, rfl⟩
  have hB : Below w.heap.size w W := by rw [← hW]; exact (Below.refl _ _).alloc (Nat.le_refl _) _
  have hO : W.heap[w.heap.size]? = some (.cells #[.int .u8 (x.k.toNat : Int), .int .i64 x.i, .int .i64 x.n, .slice x.ba x.l.length x.bc, .slice x.pa x.bs.length x.pc] 33 (0, 0)) := by rw [← hW]; exact heap_alloc_new _ _
  have HR := Lib.hid (h.below hB)
  have H := Lib.hid h
  have HB := Lib.hid hB
  have HO := Lib.hid hO
  clear h c0 c1 c2 f1 f2
  obtain ⟨c0, c1, c2⟩ := HR.out.cell
  have f1 := HR.out.frozen 1
  have f2 := HR.out.frozen 2
  have o0 : W.cell? ⟨w.heap.size, 0, none⟩ = some (.int .u8 (x.k.toNat : Int)) := cell_block hO 0
  have o1 : W.cell? ⟨w.heap.size, 1, none⟩ = some (.int .i64 x.i) := cell_block hO 1
  have o2 : W.cell? ⟨w.heap.size, 2, none⟩ = some (.int .i64 x.n) := cell_block hO 2
  have o3 : W.cell? ⟨w.heap.size, 3, none⟩ = some (.slice x.ba x.l.length x.bc) := cell_block hO 3
  have o4 : W.cell? ⟨w.heap.size, 4, none⟩ = some (.slice x.pa x.bs.length x.pc) := cell_block hO 4
  have ldW : d < W.heap.size := lt_block HR.out.blk
  have loW : w.heap.size < W.heap.size := lt_block hO
  clear hB hO
  have hqi : (x.k.toNat : Int) % 5 = 0 := by omega
  clear hq
  have d3 : (t.fuse == 0) = false := by simpa using hf
  have d3' : (t.fuse != 0) = true := by simpa using hf
  have d4 : decide (x.i < 0) = false := by simp; omega
  have d5 : decide ((t.n : Int) ≤ x.i) = false := by simp; omega
  have LOW : Hid (∀ g o n c, Value.slice x.ba x.l.length x.bc = .slice (some ⟨g, o, none⟩) n c → x.l ≠ [] → g < w.heap.size ∧ g ≠ d ∧ v.ownBlock ≠ some g) := Lib.hid fun g o n c e hn => ⟨hsrc.lt g o n c e hn, hap g o n c e hn⟩
  have SRCW := Lib.hid (hsrc.below HB.out)
  have hl1 : (x.l.length : Int) = 64 := by omega
  clear hf hi hsrc hap hl
  by_cases hp : 0 < t.fuse
  · have dp : decide (0 < t.fuse) = true := by simpa using hp
    have hW2 : Hid (∀ W1, Below W.heap.size W W1 → RAt (W1.setCell ⟨d, 2, none⟩ (.int .i64 (t.fuse - 1))) N d v ⟨t.n, t.L, t.fuse - 1⟩ ∧ KeptF (footR d v) w (W1.setCell ⟨d, 2, none⟩ (.int .i64 (t.fuse - 1))) ∧ (W1.setCell ⟨d, 2, none⟩ (.int .i64 (t.fuse - 1))).heap[w.heap.size]? = W.heap[w.heap.size]? ∧ OpSrc x (W1.setCell ⟨d, 2, none⟩ (.int .i64 (t.fuse - 1))) ∧ (W1.setCell ⟨d, 2, none⟩ (.int .i64 (t.fuse - 1))).heap.size = W1.heap.size) := Lib.hid fun W1 hb1 => by
      have R1 := HR.out.below hb1
      have k1 : Kept1 d W1 (W1.setCell ⟨d, 2, none⟩ (.int .i64 (t.fuse - 1))) := (Kept1.refl d W1).setCell ⟨d, 2, none⟩ (.inl rfl) _
      refine ⟨R1.turn k1 (heap_set R1.blk 2 _) rfl rfl, ?_, ?_, ?_, by simp⟩
      · exact (KeptF.of_below (HB.out.trans (hb1.mono HB.out.size))).trans (KeptF.of_kept1 (F := footR d v) k1 fun _ => .inl rfl) fun _ _ h => h
      · rw [k1.block _ (by have := hb1.size; omega) (by omega)]; exact hb1.block _ loW
      · refine ⟨(SRCW.out.below hb1).same fun g o n c e hn => k1.block g (by have := (LOW.out g o n c e hn).1; have := hb1.size; omega) (LOW.out g o n c e hn).2.1⟩
    go_enter Try.func17, Try.ntmps17
    go_wp2_with fail
    go_quiet (fail)
    go_wp2_with fail
    try rw [hqi]
    clear hqi
    have F2 := Lib.hid (hW2.out _ (below_drewN (Below.refl W.heap.size W) nq))
    generalize World.setCell _ _ _ = W2 at *
    have R2 : Hid (RAt W2 N d v ⟨t.n, t.L, t.fuse - 1⟩) := Lib.hid F2.out.1
    have HO2 := Lib.hid (F2.out.2.2.1.trans HO.out)
    have SRC2 := Lib.hid F2.out.2.2.2.1.src
    have K2 := Lib.hid F2.out.2.1
    clear F2 hW2 o0 o1 o2 o3 o4 c0 c1 c2 f1 f2 hW
    apply join (C := fun v' w' => Hid (Did W2 N d v ⟨t.n, t.L ++ [⟨x.i, x.l, false⟩], t.fuse - 1⟩ v' w'))
    case main =>
      intro key
      have HKEY := Lib.hid key
      clear key
      have hO2 : W2.heap[w.heap.size]? = some (.cells #[.int .u8 (x.k.toNat : Int), .int .i64 x.i, .int .i64 x.n, .slice x.ba x.l.length x.bc, .slice x.pa x.bs.length x.pc] 33 (0, 0)) := HO2.out
      have hNle : N ≤ W2.heap.size := by have := R2.out.dN; have := lt_block R2.out.blk; omega
      have HSD : Hid (OHeld w.heap.size x W2.drew) := Lib.hid ⟨cell_block hO2 1, cell_block hO2 3, SRC2.out⟩
      have BEL : Hid (Below W2.heap.size W2 (W2.drew.alloc (.cells (RWr.cells ⟨x.i, x.l, false⟩).toArray 71))) := Lib.hid ((Below.refl W2.heap.size W2).drew.alloc (Nat.le_refl _) _)
      have low2 : w.heap.size < W2.heap.size := lt_block hO2
      have HSA : Hid (OHeld w.heap.size x (W2.drew.alloc (.cells (RWr.cells ⟨x.i, x.l, false⟩).toArray 71))) := Lib.hid (HSD.out.same (Below.heap_alloc _ _ _ (by exact low2)) fun g o n c e hn => Below.heap_alloc _ _ _ (by have := (LOW.out g o n c e hn).1; show g < W2.heap.size; omega))
      have OWN : Hid ((W2.drew.alloc (.cells (RWr.cells ⟨x.i, x.l, false⟩).toArray 71)).ownsRow N 71 3 v t.L.length (cellsR t.L)) := Lib.hid (own_same R2.out.row fun g hg => BEL.out.block g (R2.out.row.lt g hg).2)
      have SRC : Hid ((W2.drew.alloc (.cells (RWr.cells ⟨x.i, x.l, false⟩).toArray 71)).heap[W2.heap.size]? = some (.cells (RWr.cells ⟨x.i, x.l, false⟩).toArray 71 (0, 0))) := Lib.hid (heap_alloc_new W2.drew _)
      have C3 : Hid (∀ w3, (W2.drew.alloc (.cells (RWr.cells ⟨x.i, x.l, false⟩).toArray 71)).grownBy w3 v.ownBlock → w3.cell? ⟨d, 1, none⟩ = some v ∧ w3.frozen? ⟨d, 1, none⟩ = false) := Lib.hid (fun w3 hgr => by
        have hbd := (rgrown_d BEL.out hgr d (lt_block R2.out.blk) R2.out.nd).trans R2.out.blk
        exact ⟨by rw [cell_block hbd]; rfl, frozen_of_row w3 d 1 _ _ hbd⟩)
      have SG : Hid (∀ w3, (W2.drew.alloc (.cells (RWr.cells ⟨x.i, x.l, false⟩).toArray 71)).grownBy w3 v.ownBlock → OHeld w.heap.size x w3) := Lib.hid fun w3 hgr => HSA.out.same (hgr.block _ (by have := BEL.out.size; omega) (fun e => by have := (H.out.row.lt _ e.symm).2; omega)) fun g o n c e hn => hgr.block _ (by have := BEL.out.size; have := (LOW.out g o n c e hn).1; omega) (fun e' => (LOW.out g o n c e hn).2.2 e'.symm)
      have hneO : w.heap.size ≠ d := by omega
      have hneB : ∀ g o n c, Value.slice x.ba x.l.length x.bc = .slice (some ⟨g, o, none⟩) n c → x.l ≠ [] → g ≠ d := fun g o n c e hn => (LOW.out g o n c e hn).2.1
      have CLD : Hid (W2.drew.cell? ⟨d, 1, none⟩ = some v) := Lib.hid (R2.out.cell).2.1
      have CLA : Hid ((W2.alloc (.cells #[.int .i64 x.i, .string ⟨x.l.toArray⟩, .bool false] 71)).cell? ⟨d, 1, none⟩ = some v) := Lib.hid (by rw [World.cell?_alloc_lt _ _ _ (by exact lt_block R2.out.blk)]; exact (R2.out.cell).2.1)
      clear hO2
      refine wp_region_held (S := OHeld w.heap.size x) (by kernel_rfl) ?_
      change wpAnyH _ _ _ _ _ _ _ _ (World.drew _)
      refine wpAnyH_take (i := 0) (v := ?_) rfl (by kernel_rfl) (by kernel_rfl) (by kernel_rfl) (fun _ _ _ h => h) (Or.inl ⟨by rfl, ?_⟩) HSD.out ?_
      rotate_left 1
      · intro w hS; go_simp; try with_reducible rfl
      refine wpAnyH_take (i := 1) (v := ?_) rfl (by kernel_rfl) (by kernel_rfl) (by kernel_rfl) (fun _ _ _ h => h) (Or.inl ⟨by rfl, ?_⟩) HSD.out ?_
      rotate_left 1
      · intro w hS; go_simp; try with_reducible rfl
      refine wpAnyH_take (i := 2) (v := ?_) rfl (by kernel_rfl) (by kernel_rfl) (by kernel_rfl) (fun _ _ _ h => h) (Or.inl ⟨by rfl, ?_⟩) HSD.out ?_
      rotate_left 1
      · intro w hS; go_simp; try with_reducible rfl
      refine wpAnyH_take (i := 3) (v := ?_) rfl (by kernel_rfl) (by kernel_rfl) (by kernel_rfl) (fun _ _ _ h => h) (Or.inl ⟨by rfl, ?_⟩) HSD.out ?_
      rotate_left 1
      · intro w hS; go_simp; try with_reducible rfl
      refine wpAnyH_take (i := 5) (v := ?_) rfl (by kernel_rfl) (by kernel_rfl) (by kernel_rfl) (fun _ _ _ h => h) (Or.inl ⟨by rfl, ?_⟩) HSD.out ?_
      rotate_left 1
      · intro w hS; go_simp; try with_reducible rfl
      refine wpAnyH_take (i := 6) (v := ?_) rfl (by kernel_rfl) (by kernel_rfl) (by kernel_rfl) (fun _ _ _ h => h) (Or.inl ⟨by rfl, ?_⟩) HSD.out ?_
      rotate_left 1
      · intro w hS; have c1 := hS.c1; clear hS; go_simp; try with_reducible rfl
      refine wpAnyH_take (i := 7) (v := ?_) rfl (by kernel_rfl) (by kernel_rfl) (by kernel_rfl) (fun _ _ _ h => h) (Or.inl ⟨by rfl, ?_⟩) HSD.out ?_
      rotate_left 1
      · intro w hS; go_simp; try with_reducible rfl
      refine wpAnyH_take (i := 8) (v := ?_) rfl (by kernel_rfl) (by kernel_rfl) (by kernel_rfl) (fun _ _ _ h => h) (Or.inl ⟨by rfl, ?_⟩) HSD.out ?_
      rotate_left 1
      · intro w hS; have c3 := hS.c3; clear hS; go_simp; try with_reducible rfl
      refine wpAnyH_take (i := 9) (v := ?_) rfl (by kernel_rfl) (by kernel_rfl) (by kernel_rfl) (fun _ _ _ h => h) (Or.inl ⟨by rfl, ?_⟩) HSD.out ?_
      rotate_left 1
      · intro w hS; have cv := conv_bytes hS.src; clear hS; go_simp; try with_reducible rfl
      refine wpAnyH_take (i := 10) (v := ?_) rfl (by kernel_rfl) (by kernel_rfl) (by kernel_rfl) (fun _ _ _ h => h) (Or.inl ⟨by rfl, ?_⟩) HSD.out ?_
      rotate_left 1
      · intro w hS; go_simp; try with_reducible rfl
      refine wpAnyH_all (rs := [4, 11]) (by kernel_rfl) (by simp) ?_
      refine List.forall_mem_cons.2 ⟨?_, List.forall_mem_cons.2 ⟨?_, fun _ h => (by cases h)⟩⟩
      · refine wpOp_k rfl fun K hK => ?_
        have q1 := CLD.out
        go_simp
        refine hK _ _ ⟨HSD.out, ?_⟩; clear hK K q1
        refine wpAnyH_all (rs := [11]) (by kernel_rfl) (by simp) ?_
        refine List.forall_mem_cons.2 ⟨?_, fun _ h => (by cases h)⟩
        · refine wpOp_k rfl fun K hK => ?_
          go_simp
          refine hK _ _ ⟨HSA.out, ?_⟩; clear hK K
          refine wpAnyH_all (rs := [12]) (by kernel_rfl) (by simp) ?_
          refine List.forall_mem_cons.2 ⟨?_, fun _ h => (by cases h)⟩
          · refine wpOp_k rfl fun K hK => ?_
            refine step_append_r rfl (.tmp 63) (.tmp 70) rfl N t.L ⟨x.i, x.l, false⟩ v rfl OWN.out W2.heap.size rfl SRC.out (by omega) (by simp; omega) ?_
            intro g' cap' w3 hown3 hgr3 hg3
            have S6 := Lib.hid (rsix_of R2.out BEL.out hown3 hgr3 hg3)
            have HS3 := Lib.hid (SG.out w3 hgr3)
            obtain ⟨p1, q1⟩ := C3.out w3 hgr3
            clear hown3 hgr3 hg3
            simp only [Act.put, List.setIfInBounds_toArray]
            refine hK _ _ ⟨HS3.out, ?_⟩; clear hK K
            refine wpAnyH_take (i := 13) (v := ?_) rfl (by kernel_rfl) (by kernel_rfl) (by kernel_rfl) (fun _ _ _ h => h) (Or.inl ⟨by rfl, ?_⟩) HS3.out ?_
            rotate_left 1
            · intro w hS; go_simp; try with_reducible rfl
            refine wpAnyH_take (i := 14) (v := ?_) rfl (by kernel_rfl) (by kernel_rfl) (by kernel_rfl) (fun _ _ _ h => h) (Or.inl ⟨by rfl, ?_⟩) HS3.out ?_
            rotate_left 1
            · intro w hS; go_simp; try with_reducible rfl
            refine wpAnyH_all (rs := [15]) (by kernel_rfl) (by simp) ?_
            refine List.forall_mem_cons.2 ⟨?_, fun _ h => (by cases h)⟩
            · refine wpOp_k rfl fun K hK => ?_
              go_simp
              refine hK _ _ ⟨HS3.out.setD hneO hneB, ?_⟩; clear hK K
              refine wpAnyH_done (by kernel_rfl) ?_ _
              generalize Value.slice (some ⟨g', 0, none⟩) (t.L.length + 1) cap' = v' at S6 ⊢
              generalize World.setCell w3 ⟨d, 1, none⟩ v' = w4 at S6 ⊢
              exact HKEY.out v' w4 S6
      · refine wpOp_k rfl fun K hK => ?_
        go_simp
        refine hK _ _ ⟨HSA.out, ?_⟩; clear hK K
        refine wpAnyH_all (rs := [4]) (by kernel_rfl) (by simp) ?_
        refine List.forall_mem_cons.2 ⟨?_, fun _ h => (by cases h)⟩
        · refine wpOp_k rfl fun K hK => ?_
          have q1 := CLA.out
          go_simp
          refine hK _ _ ⟨HSA.out, ?_⟩; clear hK K q1
          refine wpAnyH_all (rs := [12]) (by kernel_rfl) (by simp) ?_
          refine List.forall_mem_cons.2 ⟨?_, fun _ h => (by cases h)⟩
          · refine wpOp_k rfl fun K hK => ?_
            refine step_append_r rfl (.tmp 63) (.tmp 70) rfl N t.L ⟨x.i, x.l, false⟩ v rfl OWN.out W2.heap.size rfl SRC.out (by omega) (by simp; omega) ?_
            intro g' cap' w3 hown3 hgr3 hg3
            have S6 := Lib.hid (rsix_of R2.out BEL.out hown3 hgr3 hg3)
            have HS3 := Lib.hid (SG.out w3 hgr3)
            obtain ⟨p1, q1⟩ := C3.out w3 hgr3
            clear hown3 hgr3 hg3
            simp only [Act.put, List.setIfInBounds_toArray]
            refine hK _ _ ⟨HS3.out, ?_⟩; clear hK K
            refine wpAnyH_take (i := 13) (v := ?_) rfl (by kernel_rfl) (by kernel_rfl) (by kernel_rfl) (fun _ _ _ h => h) (Or.inl ⟨by rfl, ?_⟩) HS3.out ?_
            rotate_left 1
            · intro w hS; go_simp; try with_reducible rfl
            refine wpAnyH_take (i := 14) (v := ?_) rfl (by kernel_rfl) (by kernel_rfl) (by kernel_rfl) (fun _ _ _ h => h) (Or.inl ⟨by rfl, ?_⟩) HS3.out ?_
            rotate_left 1
            · intro w hS; go_simp; try with_reducible rfl
            refine wpAnyH_all (rs := [15]) (by kernel_rfl) (by simp) ?_
            refine List.forall_mem_cons.2 ⟨?_, fun _ h => (by cases h)⟩
            · refine wpOp_k rfl fun K hK => ?_
              go_simp
              refine hK _ _ ⟨HS3.out.setD hneO hneB, ?_⟩; clear hK K
              refine wpAnyH_done (by kernel_rfl) ?_ _
              generalize Value.slice (some ⟨g', 0, none⟩) (t.L.length + 1) cap' = v' at S6 ⊢
              generalize World.setCell w3 ⟨d, 1, none⟩ v' = w4 at S6 ⊢
              exact HKEY.out v' w4 S6
    case rest =>
      intro v' w4 S6
      go_wp2_with fail
      go_ret2
      exact ⟨rfl, v', by (try rw [if_pos (by omega)]); exact ⟨S6.out.at', K2.out.trans S6.out.kept fun _ _ h => h, fun k hk => (S6.out.own k hk).imp id fun h => by have := K2.out.size; omega⟩⟩
  · have dp : decide (0 < t.fuse) = false := by simpa using hp
    have hW2 : Hid (∀ W1, Below W.heap.size W W1 → RAt W1 N d v ⟨t.n, t.L, t.fuse⟩ ∧ KeptF (footR d v) w W1 ∧ W1.heap[w.heap.size]? = W.heap[w.heap.size]? ∧ OpSrc x W1 ∧ W1.heap.size = W1.heap.size) := Lib.hid fun W1 hb1 => ⟨HR.out.below hb1, KeptF.of_below (HB.out.trans (hb1.mono HB.out.size)), hb1.block _ loW, ⟨SRCW.out.below hb1⟩, rfl⟩
    go_enter Try.func17, Try.ntmps17
    go_wp2_with fail
    go_quiet (fail)
    go_wp2_with fail
    try rw [hqi]
    clear hqi
    have F2 := Lib.hid (hW2.out _ (below_drewN (Below.refl W.heap.size W) nq))
    generalize World.drewN _ _ = W2 at *
    have R2 : Hid (RAt W2 N d v ⟨t.n, t.L, t.fuse⟩) := Lib.hid F2.out.1
    have HO2 := Lib.hid (F2.out.2.2.1.trans HO.out)
    have SRC2 := Lib.hid F2.out.2.2.2.1.src
    have K2 := Lib.hid F2.out.2.1
    clear F2 hW2 o0 o1 o2 o3 o4 c0 c1 c2 f1 f2 hW
    apply join (C := fun v' w' => Hid (Did W2 N d v ⟨t.n, t.L ++ [⟨x.i, x.l, false⟩], t.fuse⟩ v' w'))
    case main =>
      intro key
      have HKEY := Lib.hid key
      clear key
      have hO2 : W2.heap[w.heap.size]? = some (.cells #[.int .u8 (x.k.toNat : Int), .int .i64 x.i, .int .i64 x.n, .slice x.ba x.l.length x.bc, .slice x.pa x.bs.length x.pc] 33 (0, 0)) := HO2.out
      have hNle : N ≤ W2.heap.size := by have := R2.out.dN; have := lt_block R2.out.blk; omega
      have HSD : Hid (OHeld w.heap.size x W2.drew) := Lib.hid ⟨cell_block hO2 1, cell_block hO2 3, SRC2.out⟩
      have BEL : Hid (Below W2.heap.size W2 (W2.drew.alloc (.cells (RWr.cells ⟨x.i, x.l, false⟩).toArray 71))) := Lib.hid ((Below.refl W2.heap.size W2).drew.alloc (Nat.le_refl _) _)
      have low2 : w.heap.size < W2.heap.size := lt_block hO2
      have HSA : Hid (OHeld w.heap.size x (W2.drew.alloc (.cells (RWr.cells ⟨x.i, x.l, false⟩).toArray 71))) := Lib.hid (HSD.out.same (Below.heap_alloc _ _ _ (by exact low2)) fun g o n c e hn => Below.heap_alloc _ _ _ (by have := (LOW.out g o n c e hn).1; show g < W2.heap.size; omega))
      have OWN : Hid ((W2.drew.alloc (.cells (RWr.cells ⟨x.i, x.l, false⟩).toArray 71)).ownsRow N 71 3 v t.L.length (cellsR t.L)) := Lib.hid (own_same R2.out.row fun g hg => BEL.out.block g (R2.out.row.lt g hg).2)
      have SRC : Hid ((W2.drew.alloc (.cells (RWr.cells ⟨x.i, x.l, false⟩).toArray 71)).heap[W2.heap.size]? = some (.cells (RWr.cells ⟨x.i, x.l, false⟩).toArray 71 (0, 0))) := Lib.hid (heap_alloc_new W2.drew _)
      have C3 : Hid (∀ w3, (W2.drew.alloc (.cells (RWr.cells ⟨x.i, x.l, false⟩).toArray 71)).grownBy w3 v.ownBlock → w3.cell? ⟨d, 1, none⟩ = some v ∧ w3.frozen? ⟨d, 1, none⟩ = false) := Lib.hid (fun w3 hgr => by
        have hbd := (rgrown_d BEL.out hgr d (lt_block R2.out.blk) R2.out.nd).trans R2.out.blk
        exact ⟨by rw [cell_block hbd]; rfl, frozen_of_row w3 d 1 _ _ hbd⟩)
      have SG : Hid (∀ w3, (W2.drew.alloc (.cells (RWr.cells ⟨x.i, x.l, false⟩).toArray 71)).grownBy w3 v.ownBlock → OHeld w.heap.size x w3) := Lib.hid fun w3 hgr => HSA.out.same (hgr.block _ (by have := BEL.out.size; omega) (fun e => by have := (H.out.row.lt _ e.symm).2; omega)) fun g o n c e hn => hgr.block _ (by have := BEL.out.size; have := (LOW.out g o n c e hn).1; omega) (fun e' => (LOW.out g o n c e hn).2.2 e'.symm)
      have hneO : w.heap.size ≠ d := by omega
      have hneB : ∀ g o n c, Value.slice x.ba x.l.length x.bc = .slice (some ⟨g, o, none⟩) n c → x.l ≠ [] → g ≠ d := fun g o n c e hn => (LOW.out g o n c e hn).2.1
      have CLD : Hid (W2.drew.cell? ⟨d, 1, none⟩ = some v) := Lib.hid (R2.out.cell).2.1
      have CLA : Hid ((W2.alloc (.cells #[.int .i64 x.i, .string ⟨x.l.toArray⟩, .bool false] 71)).cell? ⟨d, 1, none⟩ = some v) := Lib.hid (by rw [World.cell?_alloc_lt _ _ _ (by exact lt_block R2.out.blk)]; exact (R2.out.cell).2.1)
      clear hO2
      refine wp_region_held (S := OHeld w.heap.size x) (by kernel_rfl) ?_
      change wpAnyH _ _ _ _ _ _ _ _ (World.drew _)
      refine wpAnyH_take (i := 0) (v := ?_) rfl (by kernel_rfl) (by kernel_rfl) (by kernel_rfl) (fun _ _ _ h => h) (Or.inl ⟨by rfl, ?_⟩) HSD.out ?_
      rotate_left 1
      · intro w hS; go_simp; try with_reducible rfl
      refine wpAnyH_take (i := 1) (v := ?_) rfl (by kernel_rfl) (by kernel_rfl) (by kernel_rfl) (fun _ _ _ h => h) (Or.inl ⟨by rfl, ?_⟩) HSD.out ?_
      rotate_left 1
      · intro w hS; go_simp; try with_reducible rfl
      refine wpAnyH_take (i := 2) (v := ?_) rfl (by kernel_rfl) (by kernel_rfl) (by kernel_rfl) (fun _ _ _ h => h) (Or.inl ⟨by rfl, ?_⟩) HSD.out ?_
      rotate_left 1
      · intro w hS; go_simp; try with_reducible rfl
      refine wpAnyH_take (i := 3) (v := ?_) rfl (by kernel_rfl) (by kernel_rfl) (by kernel_rfl) (fun _ _ _ h => h) (Or.inl ⟨by rfl, ?_⟩) HSD.out ?_
      rotate_left 1
      · intro w hS; go_simp; try with_reducible rfl
      refine wpAnyH_take (i := 5) (v := ?_) rfl (by kernel_rfl) (by kernel_rfl) (by kernel_rfl) (fun _ _ _ h => h) (Or.inl ⟨by rfl, ?_⟩) HSD.out ?_
      rotate_left 1
      · intro w hS; go_simp; try with_reducible rfl
      refine wpAnyH_take (i := 6) (v := ?_) rfl (by kernel_rfl) (by kernel_rfl) (by kernel_rfl) (fun _ _ _ h => h) (Or.inl ⟨by rfl, ?_⟩) HSD.out ?_
      rotate_left 1
      · intro w hS; have c1 := hS.c1; clear hS; go_simp; try with_reducible rfl
      refine wpAnyH_take (i := 7) (v := ?_) rfl (by kernel_rfl) (by kernel_rfl) (by kernel_rfl) (fun _ _ _ h => h) (Or.inl ⟨by rfl, ?_⟩) HSD.out ?_
      rotate_left 1
      · intro w hS; go_simp; try with_reducible rfl
      refine wpAnyH_take (i := 8) (v := ?_) rfl (by kernel_rfl) (by kernel_rfl) (by kernel_rfl) (fun _ _ _ h => h) (Or.inl ⟨by rfl, ?_⟩) HSD.out ?_
      rotate_left 1
      · intro w hS; have c3 := hS.c3; clear hS; go_simp; try with_reducible rfl
      refine wpAnyH_take (i := 9) (v := ?_) rfl (by kernel_rfl) (by kernel_rfl) (by kernel_rfl) (fun _ _ _ h => h) (Or.inl ⟨by rfl, ?_⟩) HSD.out ?_
      rotate_left 1
      · intro w hS; have cv := conv_bytes hS.src; clear hS; go_simp; try with_reducible rfl
      refine wpAnyH_take (i := 10) (v := ?_) rfl (by kernel_rfl) (by kernel_rfl) (by kernel_rfl) (fun _ _ _ h => h) (Or.inl ⟨by rfl, ?_⟩) HSD.out ?_
      rotate_left 1
      · intro w hS; go_simp; try with_reducible rfl
      refine wpAnyH_all (rs := [4, 11]) (by kernel_rfl) (by simp) ?_
      refine List.forall_mem_cons.2 ⟨?_, List.forall_mem_cons.2 ⟨?_, fun _ h => (by cases h)⟩⟩
      · refine wpOp_k rfl fun K hK => ?_
        have q1 := CLD.out
        go_simp
        refine hK _ _ ⟨HSD.out, ?_⟩; clear hK K q1
        refine wpAnyH_all (rs := [11]) (by kernel_rfl) (by simp) ?_
        refine List.forall_mem_cons.2 ⟨?_, fun _ h => (by cases h)⟩
        · refine wpOp_k rfl fun K hK => ?_
          go_simp
          refine hK _ _ ⟨HSA.out, ?_⟩; clear hK K
          refine wpAnyH_all (rs := [12]) (by kernel_rfl) (by simp) ?_
          refine List.forall_mem_cons.2 ⟨?_, fun _ h => (by cases h)⟩
          · refine wpOp_k rfl fun K hK => ?_
            refine step_append_r rfl (.tmp 63) (.tmp 70) rfl N t.L ⟨x.i, x.l, false⟩ v rfl OWN.out W2.heap.size rfl SRC.out (by omega) (by simp; omega) ?_
            intro g' cap' w3 hown3 hgr3 hg3
            have S6 := Lib.hid (rsix_of R2.out BEL.out hown3 hgr3 hg3)
            have HS3 := Lib.hid (SG.out w3 hgr3)
            obtain ⟨p1, q1⟩ := C3.out w3 hgr3
            clear hown3 hgr3 hg3
            simp only [Act.put, List.setIfInBounds_toArray]
            refine hK _ _ ⟨HS3.out, ?_⟩; clear hK K
            refine wpAnyH_take (i := 13) (v := ?_) rfl (by kernel_rfl) (by kernel_rfl) (by kernel_rfl) (fun _ _ _ h => h) (Or.inl ⟨by rfl, ?_⟩) HS3.out ?_
            rotate_left 1
            · intro w hS; go_simp; try with_reducible rfl
            refine wpAnyH_take (i := 14) (v := ?_) rfl (by kernel_rfl) (by kernel_rfl) (by kernel_rfl) (fun _ _ _ h => h) (Or.inl ⟨by rfl, ?_⟩) HS3.out ?_
            rotate_left 1
            · intro w hS; go_simp; try with_reducible rfl
            refine wpAnyH_all (rs := [15]) (by kernel_rfl) (by simp) ?_
            refine List.forall_mem_cons.2 ⟨?_, fun _ h => (by cases h)⟩
            · refine wpOp_k rfl fun K hK => ?_
              go_simp
              refine hK _ _ ⟨HS3.out.setD hneO hneB, ?_⟩; clear hK K
              refine wpAnyH_done (by kernel_rfl) ?_ _
              generalize Value.slice (some ⟨g', 0, none⟩) (t.L.length + 1) cap' = v' at S6 ⊢
              generalize World.setCell w3 ⟨d, 1, none⟩ v' = w4 at S6 ⊢
              exact HKEY.out v' w4 S6
      · refine wpOp_k rfl fun K hK => ?_
        go_simp
        refine hK _ _ ⟨HSA.out, ?_⟩; clear hK K
        refine wpAnyH_all (rs := [4]) (by kernel_rfl) (by simp) ?_
        refine List.forall_mem_cons.2 ⟨?_, fun _ h => (by cases h)⟩
        · refine wpOp_k rfl fun K hK => ?_
          have q1 := CLA.out
          go_simp
          refine hK _ _ ⟨HSA.out, ?_⟩; clear hK K q1
          refine wpAnyH_all (rs := [12]) (by kernel_rfl) (by simp) ?_
          refine List.forall_mem_cons.2 ⟨?_, fun _ h => (by cases h)⟩
          · refine wpOp_k rfl fun K hK => ?_
            refine step_append_r rfl (.tmp 63) (.tmp 70) rfl N t.L ⟨x.i, x.l, false⟩ v rfl OWN.out W2.heap.size rfl SRC.out (by omega) (by simp; omega) ?_
            intro g' cap' w3 hown3 hgr3 hg3
            have S6 := Lib.hid (rsix_of R2.out BEL.out hown3 hgr3 hg3)
            have HS3 := Lib.hid (SG.out w3 hgr3)
            obtain ⟨p1, q1⟩ := C3.out w3 hgr3
            clear hown3 hgr3 hg3
            simp only [Act.put, List.setIfInBounds_toArray]
            refine hK _ _ ⟨HS3.out, ?_⟩; clear hK K
            refine wpAnyH_take (i := 13) (v := ?_) rfl (by kernel_rfl) (by kernel_rfl) (by kernel_rfl) (fun _ _ _ h => h) (Or.inl ⟨by rfl, ?_⟩) HS3.out ?_
            rotate_left 1
            · intro w hS; go_simp; try with_reducible rfl
            refine wpAnyH_take (i := 14) (v := ?_) rfl (by kernel_rfl) (by kernel_rfl) (by kernel_rfl) (fun _ _ _ h => h) (Or.inl ⟨by rfl, ?_⟩) HS3.out ?_
            rotate_left 1
            · intro w hS; go_simp; try with_reducible rfl
            refine wpAnyH_all (rs := [15]) (by kernel_rfl) (by simp) ?_
            refine List.forall_mem_cons.2 ⟨?_, fun _ h => (by cases h)⟩
            · refine wpOp_k rfl fun K hK => ?_
              go_simp
              refine hK _ _ ⟨HS3.out.setD hneO hneB, ?_⟩; clear hK K
              refine wpAnyH_done (by kernel_rfl) ?_ _
              generalize Value.slice (some ⟨g', 0, none⟩) (t.L.length + 1) cap' = v' at S6 ⊢
              generalize World.setCell w3 ⟨d, 1, none⟩ v' = w4 at S6 ⊢
              exact HKEY.out v' w4 S6
    case rest =>
      intro v' w4 S6
      go_wp2_with fail
      go_ret2
      exact ⟨rfl, v', by (try rw [if_neg (by omega)]); exact ⟨S6.out.at', K2.out.trans S6.out.kept fun _ _ h => h, fun k hk => (S6.out.own k hk).imp id fun h => by have := K2.out.size; omega⟩⟩
end Go.Proofs.Ytammnjfccjfbhaa
