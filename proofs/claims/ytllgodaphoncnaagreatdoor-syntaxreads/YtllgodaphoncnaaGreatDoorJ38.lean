/- How deep a tree is: rows of addresses, and the map, in memory; How deep a tree is: the program's way. -/
import Derived.Test.YtllgodaphoncnaaGreatDoorJ37
namespace Go.Proofs.YtllgodaphoncnaaGreatDoor
open Go.RowKit

def ptrsL (L : LT) : List Value := L.map fun n => Value.pointer (some n.1)
/-- a row of one's own of these addresses -/
structure OwnP (w : World) (base : Nat) (v : Value) (L : LT) : Prop where
  row : w.ownsRow base 74 1 v L.length (ptrsL L)
set_option maxRecDepth 100000 in
theorem append_ptr {w : World} {ops : Array Oper} {rest : List Oper} {o : Oper} {a : Act} {Q : Exit → Act → World → Prop} (hgd : o.guard = none) (s x : Operand)
    (ho : o.op = .call { callee := .builtin .append, args := #[s, x], argTypes := #[75, 75] })
    (base : Nat) (L : LT) (n : Addr × Tr) (v : Value) (hs : a.eval s = v) (hown : OwnP w base v L) (g c : Nat) (hx : a.eval x = .slice (some ⟨g, 0, none⟩) 1 c) (hg : w.heap[g]? = some (.cells #[.pointer (some n.1)] 74 (0, 0))) (hlen : L.length ≤ 1000000) (hbase : base ≤ w.heap.size)
    (k : ∀ v' w', OwnP w' base v' (L ++ [n]) → Below base w w' → wpList Tryz.prog ops Q rest (a.put o.dst v') w') : wpList Tryz.prog ops Q (o :: rest) a w := by
  obtain ⟨i, hi, hz, hsz, hby⟩ := info_parts (show (Tryz.prog.info? 74).map (fun i => (i.zero, i.size, i.bytes)) = some (some (.pointer none), 1, 8) by kernel_rfl)
  refine wpList_append_own_wide w hgd s x 75 ho base 74 i _ 1 8 Tryz.underlying75 hi hz hsz hby rfl (by omega) v L.length (ptrsL L) hs hown.row ⟨g, 0, none⟩ 1 c [.pointer (some n.1)] hx rfl (fun j u hj => by
    rw [Addr.add_mid, Nat.zero_add, cell_block hg]
    simpa using hj) (fun u hu => by obtain rfl := List.mem_singleton.1 hu; rfl) (by unfold maxLen; omega) (by omega) hbase ?_
  intro v' w' hown' hgr _
  refine k v' w' ⟨by rw [List.length_append, ptrsL, List.map_append]; exact hown'⟩ ((Below.refl base w).grown hgr hbase (fun b hb => (hown.row.lt b hb).1))
/-- addresses in memory, in blocks behind M -/
structure PtrsAt (w : World) (M : Nat) (v : Value) (L : LT) : Prop where
  at' : ∃ (ad : Option Addr) (g cap : Nat), v = .slice ad L.length cap ∧ (L ≠ [] → ad = some ⟨g, 0, none⟩ ∧ M < g) ∧ ∀ i, (hi : i < L.length) → w.cell? ⟨g, i, none⟩ = some (.pointer (some L[i].1))
set_option maxRecDepth 100000 in
theorem OwnP.ptrs {w : World} {base M : Nat} {v : Value} {L : LT} (h : OwnP w base v L) (hM : M < base) : PtrsAt w M v L := by
  rcases h.row.2 with ⟨rfl, hn⟩ | ⟨g, cap, cur, rfl, hb, hg, hc, hm, hcs, ht⟩
  · have : L = [] := List.eq_nil_of_length_eq_zero hn
    subst this
    exact ⟨none, 0, 0, rfl, fun h => absurd rfl h, fun i hi => absurd hi (by simp)⟩
  · refine ⟨some ⟨g, 0, none⟩, g, cap, rfl, fun _ => ⟨rfl, by omega⟩, fun i hi => ?_⟩
    rw [cell_block hg i]
    have e : (ptrsL L)[i]? = cur[i]? := by
      rw [← ht, List.getElem?_take, if_pos (by omega)]
      simp
    rw [← e, ptrsL, List.getElem?_map, List.getElem?_eq_getElem hi]; rfl
set_option maxRecDepth 100000 in
theorem PtrsAt.kept {w w' : World} {M : Nat} {v : Value} {L : LT} (h : PtrsAt w M v L) (hk : ∀ k, M < k → k < w.heap.size → w'.heap[k]? = w.heap[k]?) : PtrsAt w' M v L := by
  obtain ⟨ad, g, cap, e, h1, h2⟩ := h.at'
  refine ⟨ad, g, cap, e, h1, fun i hi => ?_⟩
  have h0 := h2 i hi
  rw [← h0]
  exact World.cell?_of_block (w := w) (hk g (h1 (by intro e; subst e; cases hi)).2 (block_lt_of_cell h0))
structure RowP (w : World) (g : Nat) (L : LT) : Prop where
  at' : ∀ i, (hi : i < L.length) → w.cell? ⟨g, i, none⟩ = some (.pointer (some L[i].1))
set_option maxRecDepth 100000 in
theorem RowP.kept {w w' : World} {g : Nat} {L : LT} (h : RowP w g L) (hk : w'.heap[g]? = w.heap[g]?) : RowP w' g L :=
  ⟨fun i hi => by rw [← h.at' i hi]; exact World.cell?_of_block (w := w) hk⟩
/-- the worlds of the walk: what was there stays, and the map -/
structure DW (w1 W : World) (F : List (Addr × Int)) : Prop where
  below : Below w1.heap.size w1 W
  map : MapIs W w1.heap.size F
  old : ∀ x ∈ F, PlainB w1 x.1
set_option maxRecDepth 100000 in
theorem PlainB.low {w w' : World} {a : Addr} (h : PlainB w a) (hb : Below w.heap.size w w') : PlainB w' a := by
  obtain ⟨C, T, hg⟩ := h
  exact ⟨C, T, (hb.block _ (lt_block hg)).trans hg⟩
set_option maxRecDepth 100000 in
/-- blocks are made, or turned that are new behind a base -/
theorem DW.over {w1 W W' : World} {F : List (Addr × Int)} {base : Nat} (h : DW w1 W F) (hb : Below base W W') (hM : w1.heap.size < base) : DW w1 W' F := by
  have hbel : Below w1.heap.size w1 W' := h.below.trans (hb.mono (Nat.le_of_lt hM))
  obtain ⟨es, clk, hg, he⟩ := h.map.map
  exact ⟨hbel, ⟨⟨es, clk, (hb.block _ hM).trans hg, he⟩, fun x hx => (h.old x hx).low hbel⟩, h.old⟩
set_option maxRecDepth 100000 in
theorem len_map {w : World} {M : Nat} {F : List (Addr × Int)} (h : MapIs w M F) (ty : TypeId) : (Builtin.len_ #[73] ty #[.map (some M)]).run Tryz.prog w = .ok (.int .i64 F.length) w := by
  obtain ⟨es, clk, hg, he⟩ := h.map
  have hlen : es.size = F.length := by
    have := congrArg List.length he
    simpa using this
  simp [Builtin.len_, run_underlying Tryz.underlying73, MapKept.run_getObj_map hg, hlen, goInt]
set_option maxRecDepth 100000 in
theorem look_map {w : World} {M : Nat} {F : List (Addr × Int)} {a : Addr} (h : MapIs w M F) (ha : PlainB w a) : (Instr.lookup 73 (.map (some M)) (.pointer (some a)) false).run Tryz.prog w = .ok (.int .i64 (lookF a F)) w := by
  obtain ⟨j, hj, hs⟩ : ∃ j, Tryz.prog.info? 27 = some j ∧ j.size ≠ 0 := by
    have h0 : (Tryz.prog.info? 27).map (·.size) = some 8 := by kernel_rfl
    obtain ⟨j, h1, h2⟩ := Option.map_eq_some_iff.1 h0
    exact ⟨j, h1, by rw [h2]; decide⟩
  exact run_lookup_ptr Tryz.underlying73 Tryz.underlying74 hj hs (by kernel_rfl) ha h
set_option maxRecDepth 100000 in
theorem put_map {w : World} {M : Nat} {F : List (Addr × Int)} {a : Addr} (v : Int) (h : MapIs w M F) (ha : PlainB w a) :
    ∃ w', (Instr.mapUpdate 73 (.map (some M)) (.pointer (some a)) (.int .i64 v)).run Tryz.prog w = .ok () w' ∧ Kept1 M w w' ∧ MapIs w' M (putF' a v F) ∧ w'.heap.size = w.heap.size := by
  obtain ⟨j, hj, hs⟩ : ∃ j, Tryz.prog.info? 27 = some j ∧ j.size ≠ 0 := by
    have h0 : (Tryz.prog.info? 27).map (·.size) = some 8 := by kernel_rfl
    obtain ⟨j, h1, h2⟩ := Option.map_eq_some_iff.1 h0
    exact ⟨j, h1, by rw [h2]; decide⟩
  exact run_update_ptr v Tryz.underlying73 Tryz.underlying74 hj hs ha h
set_option maxRecDepth 100000 in
theorem mem_put {a : Addr} {v : Int} {F : List (Addr × Int)} {x : Addr × Int} (h : x ∈ putF' a v F) : x.1 = a ∨ x ∈ F := by
  unfold putF' at h
  split at h
  · rcases List.mem_or_eq_of_mem_set h with h | rfl
    · exact .inr h
    · exact .inl rfl
  · rcases List.mem_append.1 h with h | h
    · exact .inr h
    · obtain rfl := List.mem_singleton.1 h; exact .inl rfl
set_option maxRecDepth 100000 in
theorem DW.put {w1 W : World} {F : List (Addr × Int)} {a : Addr} (v : Int) (h : DW w1 W F) (ha : PlainB w1 a) :
    ∃ W', (Instr.mapUpdate 73 (.map (some w1.heap.size)) (.pointer (some a)) (.int .i64 v)).run Tryz.prog W = .ok () W' ∧ DW w1 W' (putF' a v F) ∧ (∀ k, w1.heap.size < k → W'.heap[k]? = W.heap[k]?) ∧ W'.heap.size = W.heap.size := by
  obtain ⟨W', h1, h2, h3, h4⟩ := put_map v h.map (ha.low h.below)
  refine ⟨W', h1, ⟨⟨h2.os.trans h.below.os, h2.tape.trans h.below.tape, h2.output.trans h.below.output, by rw [h4]; exact h.below.size, fun k hk => ?_⟩, h3, fun x hx => ?_⟩, fun k hk => ?_, h4⟩
  · have hs := h.below.size
    exact (h2.block k (by omega) (by omega)).trans (h.below.block k hk)
  · rcases mem_put hx with e | hx
    · rw [e]; exact ha
    · exact h.old x hx
  · rcases Nat.lt_or_ge k W.heap.size with hl | hl
    · exact h2.block k hl (by omega)
    · rw [Array.getElem?_eq_none hl, Array.getElem?_eq_none (by omega)]
set_option maxRecDepth 100000 in
theorem OwnP.kept {w w' : World} {base : Nat} {v : Value} {L : LT} (h : OwnP w base v L) (hk : ∀ k, base ≤ k → k < w.heap.size → w'.heap[k]? = w.heap[k]?) : OwnP w' base v L := by
  obtain ⟨h1, h2⟩ := h.row
  refine ⟨⟨h1, ?_⟩⟩
  rcases h2 with h2 | ⟨g, cap, cur, e, hg, hc, rest⟩
  · exact .inl h2
  · exact .inr ⟨g, cap, cur, e, hg, (hk g hg (lt_block hc)).trans hc, rest⟩
end Go.Proofs.YtllgodaphoncnaaGreatDoor
namespace Go.Proofs.YtllgodaphoncnaaGreatDoor
open Go.RowKit

set_option maxRecDepth 100000 in
set_option maxHeartbeats 4000000 in
theorem depth_any (w : World) (t : Tr) (X : XV) (B : Nat → Prop) (hB : ¬ B 0) (ht : TrAt B w t X) (hS : sizeT t ≤ 100000) :
    Calls Tryz.prog 14 #[X.v] w fun e w' => e = .returned (.int .i64 (depthT t : Int)) ∧ Below w.heap.size w w' := by
  obtain ⟨w1, hw1⟩ : ∃ w1, w.alloc (.cells #[.string X.o, .int .i64 X.x.k, .int .i64 X.x.i, .string X.x.s, .slice X.x.a X.x.n X.x.c, .string X.w, .string X.n, .slice X.a X.l X.c] 27 (0, 0)) = w1 := ⟨_, rfl⟩
  have hb1 : Below w.heap.size w w1 := by rw [← hw1]; exact (Below.refl _ _).alloc (Nat.le_refl _) _
  have hg1 : w1.heap[w.heap.size]? = some (.cells X.cells.toArray 27 (0, 0)) := by rw [← hw1]; exact heap_alloc_new _ _
  have hs1 : w1.heap.size = w.heap.size + 1 := by rw [← hw1]; simp
  have hnode : NodeAt w1 ⟨w.heap.size, 0, none⟩ t X := ⟨rfl, fun j hj => by rw [Nat.zero_add, cell_block hg1]; simp, ⟨_, _, hg1⟩, B, hB, ht.low hb1⟩
  obtain ⟨S, hSS⟩ : ∃ S, sizeT t = S := ⟨_, rfl⟩
  obtain ⟨D, hDD⟩ : ∃ D, depthT t = D := ⟨_, rfl⟩
  have hout : OutD w1 S D 0 [(⟨w.heap.size, 0, none⟩, t)] [] := by
    refine ⟨fun n hn => by obtain rfl := List.mem_singleton.1 hn; exact ⟨X, hnode⟩, by simp [trs, depthL, hDD], fun n hn => ⟨[], rfl, (fun m hm => by cases hm), List.Pairwise.nil⟩, fun a => by simp [lookF, findF], by simp [trs, sizeL, hSS], by simp⟩
  have hW2 : ((w1.alloc (.map #[] 0)).alloc (.cells #[.pointer (some ⟨w.heap.size, 0, none⟩)] 74 (0, 0))).heap[w1.heap.size]? = some (.map #[] 0) := (two_blocks _ _ _).1
  have hW3 : ((w1.alloc (.map #[] 0)).alloc (.cells #[.pointer (some ⟨w.heap.size, 0, none⟩)] 74 (0, 0))).heap[w1.heap.size + 1]? = some (.cells #[.pointer (some ⟨w.heap.size, 0, none⟩)] 74 (0, 0)) := (two_blocks _ _ _).2
  have hbW : Below w1.heap.size w1 ((w1.alloc (.map #[] 0)).alloc (.cells #[.pointer (some ⟨w.heap.size, 0, none⟩)] 74 (0, 0))) := ((Below.refl _ _).alloc (Nat.le_refl _) _).alloc (by simp) _
  have hdw : DW w1 ((w1.alloc (.map #[] 0)).alloc (.cells #[.pointer (some ⟨w.heap.size, 0, none⟩)] 74 (0, 0))) [] := ⟨hbW, ⟨⟨_, _, hW2, rfl⟩, fun x hx => by cases hx⟩, fun x hx => by cases hx⟩
  have hpt : PtrsAt ((w1.alloc (.map #[] 0)).alloc (.cells #[.pointer (some ⟨w.heap.size, 0, none⟩)] 74 (0, 0))) w1.heap.size (.slice (some ⟨w1.heap.size + 1, 0, none⟩) 1 1) [(⟨w.heap.size, 0, none⟩, t)] :=
    ⟨⟨some ⟨w1.heap.size + 1, 0, none⟩, w1.heap.size + 1, 1, rfl, fun _ => ⟨rfl, Nat.lt_succ_self _⟩, fun i hi => by
      obtain rfl : i = 0 := by simpa using hi
      rw [cell_block hW3]; rfl⟩⟩
  have HOUT := Lib.hid hout
  have HDW := Lib.hid hdw
  have HPT := Lib.hid hpt
  have HB1 := Lib.hid hb1
  have HS1 := Lib.hid hs1
  have HW1 := Lib.hid hw1
  have hSl : S ≤ 100000 := by omega
  have HDS : Hid (D ≤ 100000) := Lib.hid (by have := depth_size t; omega)
  have HDS : Hid (D ≤ 100000) := Lib.hid (by have := depth_size t; omega)
  have HDS : Hid (D ≤ 100000) := Lib.hid (by have := depth_size t; omega)
  have HDS : Hid (D ≤ 100000) := Lib.hid (by have := depth_size t; omega)
  have HDS : Hid (D ≤ 100000) := Lib.hid (by have := depth_size t; omega)
  have HDS : Hid (D ≤ 100000) := Lib.hid (by have := depth_size t; omega)
  have HDS : Hid (D ≤ 100000) := Lib.hid (by have := depth_size t; omega)
  have hmm := @run_makeMap Tryz.prog
  clear hout hdw hpt hbW hW2 hW3 hnode hg1 hs1 hb1 hw1 ht hSS hS
  rw [hDD]
  clear hDD
  unfold XV.v
  go_enter Tryz.func14, Tryz.ntmps14
  go_wp2_with fail
  rw [HW1.out]
  simp only [← HS1.out]
  generalize World.alloc _ _ = W0 at *
  obtain ⟨M, hMM⟩ : ∃ M, w1.heap.size = M := ⟨_, rfl⟩
  have HMM := Lib.hid hMM
  rw [hMM] at HPT ⊢
  clear hMM HW1
  go_loopw [4, 5] (fun v4 v5 wr => ∃ (d : Nat) (L : LT) (F : List (Addr × Int)), v5 = .int .i64 d ∧ Hid (OutD w1 S D d L F) ∧ Hid (DW w1 wr F) ∧ Hid (PtrsAt wr M v4 L)) (fun _ v5 _ => D - (intOf v5).toNat)
  case atStart => exact ⟨0, _, [], rfl, HOUT, HDW, HPT⟩
  case round =>
    clear HOUT HDW HPT
    obtain ⟨d, L, F, rfl, HO, HDW, HPT⟩ := hrel
    have hd : D = d + depthL (trs L) := HO.out.deep
    by_cases hL : L = []
    · subst hL
      obtain ⟨ad, g, cap, rfl, -, -⟩ := HPT.out.at'
      have hdd : D = d := by rw [hd]; simp [trs, depthL]
      subst hdd
      have HFIN := Lib.hid (HB1.out.trans (HDW.out.below.mono (by rw [HS1.out]; omega)))
      clear HO hd
      go_wp2_with fail
      go_ret
      exact ⟨rfl, HFIN.out⟩
    · have hen := HO.out.enough hL
      have hdD : d + 1 ≤ D := by
        rw [hd]
        obtain ⟨n, hn⟩ := List.exists_mem_of_ne_nil L hL
        have h1 := depthL_le.1 (Nat.le_refl (depthL (trs L))) n.2 (List.mem_map.2 ⟨n, hn, rfl⟩)
        have h2 := depthT_pos n.2
        omega
      have hfew := HO.out.few
      have hdl : d ≤ 100000 ∧ F.length ≤ 10000000000 := by
        have hds : D ≤ 100000 := HDS.out
        refine ⟨by omega, ?_⟩
        have h1 : d * S ≤ 100000 * 100000 := Nat.mul_le_mul (by omega) hSl
        omega
      obtain ⟨hd1, hF1⟩ := hdl
      have hLl : L.length ≤ 100000 := by
        have h1 := length_sizeL (trs L)
        have h2 := HO.out.sum
        have h3 : (trs L).length = L.length := by simp [trs]
        omega
      have hLp : 0 < L.length := List.length_pos_iff.2 hL
      obtain ⟨ad, g, cap, rfl, hpa, hpc⟩ := HPT.out.at'
      obtain ⟨rfl, hMg⟩ := hpa hL
      have HPT := Lib.hid (show RowP wr g L from ⟨hpc⟩)
      have HGW : Hid (g < wr.heap.size) := Lib.hid (block_lt_of_cell (hpc 0 hLp))
      have hlm := fun ty => len_map HDW.out.map ty
      rw [HMM.out] at hlm
      have HLP := Lib.hid hLp
      have HIN : Hid (InD w1 (d + 1) L F F ((trs (L.take 0)).flatMap Tr.ps) [] []) := Lib.hid HO.out.start
      have HEN := Lib.hid hen
      have HDD1 := Lib.hid hdD
      have hgt : (((F.length : Int) + 1) < ((d : Int) + 1)) = False := by simp; omega
      have HNIL : Hid (OwnP wr wr.heap.size (.slice none 0 0) []) := Lib.hid ⟨World.ownsRow_nil _ _ _ _⟩
      clear hpa hpc hfew hd hdD hen
      go_wp2_with fail
      generalize hWR : wr = WR at *
      clear hWR
      go_loopw [6, 25] (fun v6 v25 wr2 => ∃ (k : Nat) (F2 : List (Addr × Int)) (PL Bl : LT), v25 = .int .i64 k ∧ k ≤ L.length ∧ Hid (InD w1 (d + 1) L F F2 ((trs (L.take k)).flatMap Tr.ps) PL Bl) ∧ Hid (DW w1 wr2 F2) ∧ Hid (OwnP wr2 WR.heap.size v6 Bl) ∧ Hid (RowP wr2 g L) ∧ Hid (WR.heap.size ≤ wr2.heap.size)) (fun _ v25 _ => L.length - (intOf v25).toNat)
      case atStart => exact ⟨0, F, [], [], rfl, by omega, HIN, HDW, HNIL, HPT, Lib.hid (Nat.le_refl _)⟩
      case round =>
        have HSW : Hid (M < WR.heap.size) := Lib.hid (by obtain ⟨es, clk, hg, -⟩ := HDW.out.map.map; rw [← HMM.out]; exact lt_block hg)
        clear HIN HDW HNIL HPT hlm
        obtain ⟨k, F2, PL, Bl, rfl, hk, HIN, HDW, HOW, HPT, HSZ⟩ := hrel
        by_cases hkl : k < L.length
        · obtain ⟨n, hn⟩ : ∃ n, L[k] = n := ⟨_, rfl⟩
          have hnm : n ∈ L := by rw [← hn]; exact List.getElem_mem _
          obtain ⟨Y, hY⟩ := HO.out.node n hnm
          obtain ⟨hYl, hYp⟩ := hY.part
          have p0 := HPT.out.at' k hkl
          rw [hn] at p0
          have hsp : n.1 = ⟨n.1.block, n.1.off, none⟩ := by
            have h := hY.spot
            clear hYp hYl hY hnm hn p0
            obtain ⟨⟨b, o, s⟩, tt⟩ := n
            simp only at h
            subst h
            rfl
          rw [hsp] at p0
          have q7 : wr.cell? ⟨n.1.block, n.1.off + 7, none⟩ = some (.slice Y.a Y.l Y.c) := by
            have h0 := hY.cell 7 (by omega)
            have h1 : Y.cells[7]? = some (.slice Y.a Y.l Y.c) := rfl
            rw [h1] at h0
            rw [HDW.out.below.cell (block_lt_of_cell h0)]
            exact h0
          rw [hYl] at q7
          have hps : n.2.ps.length ≤ 100000 := by
            have h1 := length_sizeL n.2.ps
            have h2 : sizeT n.2 ≤ sizeL (trs L) := sizeL_mem (List.mem_map.2 ⟨n, hnm, rfl⟩)
            have h3 := HO.out.sum
            have h4 := sizeT_ps n.2
            omega
          obtain ⟨nb, hnb⟩ : ∃ b, n.1.block = b := ⟨_, rfl⟩
          obtain ⟨no, hno⟩ : ∃ b, n.1.off = b := ⟨_, rfl⟩
          rw [hnb, hno] at p0 q7
          have HQ7 : Hid (∀ W, Below w1.heap.size w1 W → W.cell? ⟨nb, no + 7, none⟩ = some (.slice Y.a n.2.ps.length Y.c)) := Lib.hid (fun W hb => by
            have h0 := hY.cell 7 (by omega)
            have h1 : Y.cells[7]? = some (.slice Y.a Y.l Y.c) := rfl
            rw [h1, hYl, hnb, hno] at h0
            rw [hb.cell (block_lt_of_cell h0)]
            exact h0)
          have HYP := Lib.hid hYp
          have HNM := Lib.hid hnm
          have HKL := Lib.hid hkl
          have HN := Lib.hid hn
          have HIN0 : Hid (InD w1 (d + 1) L F F2 ((trs (L.take k)).flatMap Tr.ps ++ n.2.ps.take 0) PL Bl) := Lib.hid (by simpa using HIN.out)
          clear hsp hnb hno hYp hnm hn hY hYl HIN
          go_wp2_with fail
          clear p0 q7
          generalize hW2 : wr = W2 at *
          clear hW2
          go_loopw [6, 34] (fun v6 v34 wr3 => ∃ (i : Nat) (F3 : List (Addr × Int)) (PL3 Bl3 : LT), v34 = .int .i64 i ∧ i ≤ n.2.ps.length ∧ Hid (InD w1 (d + 1) L F F3 ((trs (L.take k)).flatMap Tr.ps ++ n.2.ps.take i) PL3 Bl3) ∧ Hid (DW w1 wr3 F3) ∧ Hid (OwnP wr3 WR.heap.size v6 Bl3) ∧ Hid (RowP wr3 g L) ∧ Hid (WR.heap.size ≤ wr3.heap.size)) (fun _ v34 _ => n.2.ps.length - (intOf v34).toNat)
          case atStart => exact ⟨0, F2, PL, Bl, rfl, by omega, HIN0, HDW, HOW, HPT, HSZ⟩
          case round =>
            clear HIN0 HDW HOW HPT HSZ
            obtain ⟨i, F3, PL3, Bl3, rfl, hi, HIN, HDW, HOW, HPT, HSZ⟩ := hrel
            by_cases hil : i < n.2.ps.length
            · obtain ⟨pg, po, Z, hYa, hZ⟩ := HYP.out i hil
              have hcn := hpsnext n.2.ps i hil
              obtain ⟨c, hc⟩ : ∃ c, n.2.ps[i] = c := ⟨_, rfl⟩
              have hcm : c ∈ n.2.ps := by rw [← hc]; exact List.getElem_mem _
              rw [hc] at hZ hcn
              have q7 := HQ7.out wr HDW.out.below
              rw [hYa] at q7
              have hpl := hZ.plain
              have hlk := look_map HDW.out.map (hpl.low HDW.out.below)
              rw [HMM.out] at hlk
              have HZ := Lib.hid (show IsNode w1 (⟨pg, po + i * 8, none⟩, c) from ⟨Z, hZ⟩)
              have HPL := Lib.hid hpl
              have HCM := Lib.hid hcm
              have HIL := Lib.hid hil
              have HCN := Lib.hid hcn
              have hle := HIN.out.le ⟨pg, po + i * 8, none⟩
              obtain ⟨lk, hlkk⟩ : ∃ x, lookF ⟨pg, po + i * 8, none⟩ F3 = x := ⟨_, rfl⟩
              have HLK := Lib.hid hlkk
              rw [hlkk] at hlk hle
              clear hYa hZ hc hcm hpl hlkk hcn
              by_cases hld : lk = (d : Int) + 1
              · have hb1 : (lk != (d : Int) + 1) = false := by simpa using hld
                have HSK := Lib.hid (HIN.out.skip HZ.out HNM.out HCM.out (by rw [HLK.out, hld]; rfl))
                clear hld hle
                go_wp2_with fail
                clear q7 hlk
                go_roundw
                case rel => exact ⟨i + 1, F3, _, Bl3, by go_num, by have := HIL.out; omega, Lib.hid (by rw [HCN.out, ← List.append_assoc]; exact HSK.out), HDW, HOW, HPT, HSZ⟩
                case measure => have := HIL.out; simp [intOf]; omega
              · have hb1 : (lk != (d : Int) + 1) = true := by simpa using hld
                have HTK := Lib.hid (HIN.out.take HZ.out HNM.out HCM.out)
                obtain ⟨W4, hrun, hdw4, hk4, hs4⟩ := HDW.out.put ((d : Int) + 1) HPL.out
                rw [HMM.out] at hrun hk4
                have HDW4 := Lib.hid hdw4
                have HOW4 := Lib.hid (HOW.out.kept (w' := W4) fun x hx _ => hk4 x (by have := HSW.out; omega))
                have HPT4 := Lib.hid (HPT.out.kept (w' := W4) (hk4 g hMg))
                have HS4 : Hid (WR.heap.size ≤ W4.heap.size) := Lib.hid (by rw [hs4]; exact HSZ.out)
                have hbb : Bl3.length ≤ 1000000 := by
                  have h1 := HIN.out.sub.length_le
                  have h2 : PL3.length = (trs PL3).length := by simp [trs]
                  have h3 := length_sizeL (trs PL3)
                  have h4 := sizeL_done HIN.out.trees HO.out.sum (fun _ => HN.out) HKL.out
                  omega
                clear hld hle hdw4 hk4 hs4
                have HOWA : Hid (OwnP (W4.alloc (.cells #[.pointer (some ⟨pg, po + i * 8, none⟩)] 74 (0, 0))) WR.heap.size u6 Bl3) := Lib.hid (HOW4.out.kept fun x hx hl => ((Below.refl _ _).alloc (Nat.le_refl _) _ : Below W4.heap.size W4 _).block x hl)
                go_wp2_with (first | (simp only) | (refine append_ptr rfl (.tmp 51) (.tmp 53) rfl WR.heap.size Bl3 (⟨pg, po + i * 8, none⟩, c) _ rfl HOWA.out W4.heap.size 1 rfl (heap_alloc_new _ _) hbb (by have := HS4.out; simp; omega) ?_))
                intro v5 w5 hown5 hbel5
                have hbA : Below W4.heap.size W4 (W4.alloc (.cells #[.pointer (some ⟨pg, po + i * 8, none⟩)] 74 (0, 0))) := (Below.refl _ _).alloc (Nat.le_refl _) _
                have hdw5 := (HDW4.out.over hbA (by rw [HMM.out]; have := HSW.out; have := HS4.out; omega)).over hbel5 (by rw [HMM.out]; exact HSW.out)
                have hg4 : g < W4.heap.size := by have := HGW.out; have := HS4.out; omega
                have hpt5 := (HPT4.out.kept (hbA.block g hg4)).kept (hbel5.block g HGW.out)
                have HDW5 := Lib.hid hdw5
                have HPT5 := Lib.hid hpt5
                have HOW5 := Lib.hid hown5
                have HSZ5 : Hid (WR.heap.size ≤ w5.heap.size) := Lib.hid (by have h1 := hbel5.size; have h2 := HS4.out; simp at h1; omega)
                have htk := HTK.out
                rw [show (((d + 1 : Nat)) : Int) = (d : Int) + 1 from rfl] at htk
                have HTK5 := Lib.hid htk
                clear hown5 hbel5 hbA hdw5 hpt5 hg4 htk HTK HDW HOW HPT HSZ HIN hrun HOWA
                go_wp2_with fail
                clear q7 hlk
                go_roundw
                case rel => exact ⟨i + 1, _, _, _, by go_num, by have := HIL.out; omega, Lib.hid (by rw [HCN.out, ← List.append_assoc]; exact HTK5.out), HDW5, HOW5, HPT5, HSZ5⟩
                case measure => have := HIL.out; simp [intOf]; omega
            · obtain rfl : i = n.2.ps.length := by omega
              have hdone : (trs (L.take (k + 1))).flatMap Tr.ps = (trs (L.take k)).flatMap Tr.ps ++ n.2.ps := by
                rw [List.take_succ_eq_append_getElem HKL.out, HN.out, trs_snoc, List.flatMap_append]; simp
              have HDONE := Lib.hid hdone
              clear hdone
              go_wp2_with fail
              go_roundw
              case rel => exact ⟨k + 1, F3, PL3, Bl3, by go_num, by have := HKL.out; omega, Lib.hid (by rw [HDONE.out]; have := HIN.out; rw [List.take_length] at this; exact this), HDW, HOW, HPT, HSZ⟩
              case measure => have := HKL.out; simp [intOf]; omega
        · obtain rfl : k = L.length := by omega
          have hin := HIN.out
          rw [List.take_length] at hin
          have HO2 := Lib.hid (hin.out HO.out hL)
          have HP2 := Lib.hid (HOW.out.ptrs HSW.out)
          clear hin HIN HPT
          go_wp2_with fail
          go_roundw
          case rel => exact ⟨d + 1, Bl, F2, by go_num, HO2, HDW, HP2⟩
          case measure => have := HDD1.out; simp [intOf]; omega
end Go.Proofs.YtllgodaphoncnaaGreatDoor
