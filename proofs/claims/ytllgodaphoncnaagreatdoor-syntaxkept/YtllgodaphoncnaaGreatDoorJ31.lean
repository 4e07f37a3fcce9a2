/- How deep a tree is, level by level: what holds between two levels, and within one; How deep a tree is: rows of addresses, and the map, in memory. -/
import Derived.Test.YtllgodaphoncnaaGreatDoorJ30
namespace Go.Proofs.YtllgodaphoncnaaGreatDoor
open Go.RowKit

abbrev LT := List (Addr × Tr)
def trs (L : LT) : List Tr := L.map (·.2)
set_option maxRecDepth 100000 in
theorem depthL_append (a b : List Tr) : depthL (a ++ b) = max (depthL a) (depthL b) := by
  induction a with
  | nil => simp [depthL]
  | cons t l ih => simp only [List.cons_append, depthL, ih]; omega
set_option maxRecDepth 100000 in
theorem sizeL_append (a b : List Tr) : sizeL (a ++ b) = sizeL a + sizeL b := by
  induction a with
  | nil => simp [sizeL]
  | cons t l ih => simp only [List.cons_append, sizeL, ih]; omega
set_option maxRecDepth 100000 in
theorem depthL_le {l : List Tr} {m : Nat} : depthL l ≤ m ↔ ∀ t ∈ l, depthT t ≤ m := by
  induction l with
  | nil => simp [depthL]
  | cons t l ih => simp only [depthL, List.mem_cons, forall_eq_or_imp, ← ih]; omega
set_option maxRecDepth 100000 in
theorem depthT_ps (t : Tr) : depthT t = 1 + depthL t.ps := by cases t; rw [depthT]; rfl
set_option maxRecDepth 100000 in
theorem sizeT_ps (t : Tr) : sizeT t = 1 + sizeL t.ps := by cases t; rw [sizeT]; rfl
set_option maxRecDepth 100000 in
theorem depthL_flat : ∀ {l : List Tr}, l ≠ [] → depthL l = 1 + depthL (l.flatMap Tr.ps)
  | [t], _ => by simp [depthL, depthT_ps]
  | t :: u :: l, _ => by
    have h1 := depthL_flat (l := u :: l) (by simp)
    have e : (t :: u :: l).flatMap Tr.ps = t.ps ++ (u :: l).flatMap Tr.ps := rfl
    have e2 : depthL (t :: u :: l) = max (depthT t) (depthL (u :: l)) := by rw [depthL]
    rw [e2, e, depthL_append, depthT_ps, h1]
    omega
set_option maxRecDepth 100000 in
theorem sizeL_flat : ∀ (l : List Tr), sizeL (l.flatMap Tr.ps) + l.length = sizeL l
  | [] => rfl
  | t :: l => by
    have := sizeL_flat l
    rw [List.flatMap_cons, sizeL_append, sizeL, sizeT_ps, List.length_cons]
    omega
set_option maxRecDepth 100000 in
theorem length_sizeL : ∀ (l : List Tr), l.length ≤ sizeL l
  | [] => Nat.le_refl _
  | t :: l => by
    have := length_sizeL l
    have := sizeT_pos t
    rw [sizeL, List.length_cons]; omega
set_option maxRecDepth 100000 in
theorem sizeL_sub {l l' : List Tr} (h : l.Sublist l') : sizeL l ≤ sizeL l' := by
  induction h with
  | slnil => exact Nat.le_refl _
  | cons a h ih => rw [sizeL]; omega
  | cons_cons a h ih => rw [sizeL, sizeL]; omega
set_option maxRecDepth 100000 in
theorem depth_size : ∀ t : Tr, depthT t ≤ sizeT t
  | .mk op v who name ps => by
    have h : ∀ l : List Tr, (∀ t ∈ l, depthT t ≤ sizeT t) → depthL l ≤ sizeL l := by
      intro l
      induction l with
      | nil => intro _; exact Nat.le_refl _
      | cons t l ih =>
        intro ha
        have h1 := ha t List.mem_cons_self
        have h2 := ih fun u hu => ha u (List.mem_cons_of_mem _ hu)
        rw [depthL, sizeL]; omega
    have := h ps (fun t ht => depth_size t)
    rw [depthT, sizeT]; omega
termination_by t => SizeOf.sizeOf t
decreasing_by
  have := List.sizeOf_lt_of_mem ht
  simp
  omega
/-- between two levels -/
structure OutD (w : World) (S D d : Nat) (L : LT) (F : List (Addr × Int)) : Prop where
  node : ∀ n ∈ L, IsNode w n
  deep : D = d + depthL (trs L)
  path : ∀ n ∈ L, ∃ P : LT, P.length = d ∧ (∀ m ∈ P, IsNode w m ∧ m.1 ∈ keysF F ∧ sizeT n.2 ≤ sizeT m.2) ∧ P.Pairwise (fun x y => sizeT y.2 < sizeT x.2)
  vals : ∀ a, lookF a F ≤ d
  sum : sizeL (trs L) ≤ S
  few : F.length ≤ d * S
set_option maxRecDepth 100000 in
theorem OutD.enough {w : World} {S D d : Nat} {L : LT} {F : List (Addr × Int)} (h : OutD w S D d L F) (hL : L ≠ []) : d ≤ F.length := by
  obtain ⟨n, hn⟩ := List.exists_mem_of_ne_nil L hL
  obtain ⟨P, hlen, hall, hpw⟩ := h.path n hn
  have hnd : (P.map (·.1)).Nodup := by
    rw [List.nodup_iff_pairwise_ne, List.pairwise_map]
    refine hpw.imp_of_mem ?_
    intro x y hx hy hlt e
    obtain ⟨X, hX⟩ := (hall x hx).1
    obtain ⟨Y, hY⟩ := (hall y hy).1
    rw [e] at hX
    have := hX.det hY
    rw [this] at hlt
    omega
  have := nodup_le (P.map (·.1)) (keysF F) hnd (fun a ha => by
    obtain ⟨m, hm, rfl⟩ := List.mem_map.1 ha
    exact (hall m hm).2.1)
  rw [List.length_map, hlen] at this
  simpa [keysF] using this
/-- within a level -/
structure InD (w : World) (d : Nat) (L : LT) (F0 F : List (Addr × Int)) (done : List Tr) (PL Bl : LT) : Prop where
  trees : trs PL = done
  node : ∀ n ∈ PL, IsNode w n
  par : ∀ n ∈ PL, ∃ u ∈ L, n.2 ∈ u.2.ps
  sub : Bl.Sublist PL
  all : ∀ n ∈ PL, ∃ m ∈ Bl, m.1 = n.1
  look2 : ∀ a, lookF a F = d → ∃ m ∈ Bl, m.1 = a
  le : ∀ a, lookF a F ≤ d
  keys : (∀ x ∈ keysF F0, x ∈ keysF F) ∧ ∀ m ∈ Bl, m.1 ∈ keysF F
  few : F.length ≤ F0.length + PL.length
set_option maxRecDepth 100000 in
theorem OutD.start {w : World} {S D d : Nat} {L : LT} {F : List (Addr × Int)} (h : OutD w S D d L F) : InD w (d + 1) L F F [] [] [] :=
  ⟨rfl, (fun n hn => by cases hn), (fun n hn => by cases hn), List.Sublist.refl _, (fun n hn => by cases hn), (fun a ha => by have := h.vals a; rw [ha] at this; omega), (fun a => by have := h.vals a; omega), ⟨fun x hx => hx, fun m hm => by cases hm⟩, by simp⟩
set_option maxRecDepth 100000 in
theorem trs_snoc (L : LT) (n : Addr × Tr) : trs (L ++ [n]) = trs L ++ [n.2] := by simp [trs]
set_option maxRecDepth 100000 in
theorem InD.skip {w : World} {d : Nat} {L : LT} {F0 F : List (Addr × Int)} {done : List Tr} {PL Bl : LT} (h : InD w d L F0 F done PL Bl) {n u : Addr × Tr} (hn : IsNode w n) (hu : u ∈ L) (hnu : n.2 ∈ u.2.ps) (hl : lookF n.1 F = d) :
    InD w d L F0 F (done ++ [n.2]) (PL ++ [n]) Bl := by
  refine ⟨by rw [trs_snoc, h.trees], fun m hm => ?_, fun m hm => ?_, h.sub.trans (List.sublist_append_left _ _), fun m hm => ?_, h.look2, h.le, h.keys, by have := h.few; simp; omega⟩
  · rcases List.mem_append.1 hm with hm | hm
    · exact h.node m hm
    · obtain rfl := List.mem_singleton.1 hm; exact hn
  · rcases List.mem_append.1 hm with hm | hm
    · exact h.par m hm
    · obtain rfl := List.mem_singleton.1 hm; exact ⟨u, hu, hnu⟩
  · rcases List.mem_append.1 hm with hm | hm
    · exact h.all m hm
    · obtain rfl := List.mem_singleton.1 hm; exact h.look2 _ hl
set_option maxRecDepth 100000 in
theorem InD.take {w : World} {d : Nat} {L : LT} {F0 F : List (Addr × Int)} {done : List Tr} {PL Bl : LT} (h : InD w d L F0 F done PL Bl) {n u : Addr × Tr} (hn : IsNode w n) (hu : u ∈ L) (hnu : n.2 ∈ u.2.ps) :
    InD w d L F0 (putF' n.1 d F) (done ++ [n.2]) (PL ++ [n]) (Bl ++ [n]) := by
  obtain ⟨k1, k2, k3⟩ := keys_put n.1 d F
  refine ⟨by rw [trs_snoc, h.trees], fun m hm => ?_, fun m hm => ?_, h.sub.append (List.Sublist.refl _), fun m hm => ?_, fun a ha => ?_, fun a => ?_, ⟨fun x hx => k2 x (h.keys.1 x hx), fun m hm => ?_⟩, by have := h.few; simp; omega⟩
  · rcases List.mem_append.1 hm with hm | hm
    · exact h.node m hm
    · obtain rfl := List.mem_singleton.1 hm; exact hn
  · rcases List.mem_append.1 hm with hm | hm
    · exact h.par m hm
    · obtain rfl := List.mem_singleton.1 hm; exact ⟨u, hu, hnu⟩
  · rcases List.mem_append.1 hm with hm | hm
    · obtain ⟨x, hx, e⟩ := h.all m hm
      exact ⟨x, List.mem_append_left _ hx, e⟩
    · obtain rfl := List.mem_singleton.1 hm; exact ⟨m, by simp, rfl⟩
  · rw [look_put] at ha
    by_cases e : a = n.1
    · exact ⟨n, by simp, e.symm⟩
    · rw [if_neg e] at ha
      obtain ⟨x, hx, e⟩ := h.look2 a ha
      exact ⟨x, List.mem_append_left _ hx, e⟩
  · rw [look_put]
    split
    · exact Int.le_refl _
    · exact h.le a
  · rcases List.mem_append.1 hm with hm | hm
    · exact k2 _ (h.keys.2 m hm)
    · obtain rfl := List.mem_singleton.1 hm; exact k1
set_option maxRecDepth 100000 in
theorem InD.out {w : World} {S D d : Nat} {L : LT} {F0 F : List (Addr × Int)} {PL Bl : LT} (h : InD w (d + 1) L F0 F ((trs L).flatMap Tr.ps) PL Bl) (ho : OutD w S D d L F0) (hL : L ≠ []) : OutD w S D (d + 1) Bl F := by
  have hmem : ∀ n ∈ Bl, n ∈ PL := fun n hn => h.sub.subset hn
  have hsz : sizeL (trs PL) ≤ S := by
    rw [h.trees]
    have := sizeL_flat (trs L)
    have := ho.sum
    omega
  refine ⟨fun n hn => h.node n (hmem n hn), ?_, fun n hn => ?_, fun a => by have := h.le a; exact this, ?_, ?_⟩
  · have hLt : trs L ≠ [] := by simp [trs, hL]
    have e1 := depthL_flat hLt
    rw [← h.trees] at e1
    have e2 : depthL (trs PL) = depthL (trs Bl) := by
      apply Nat.le_antisymm
      · rw [depthL_le]
        intro t ht
        obtain ⟨n, hn, rfl⟩ := List.mem_map.1 ht
        obtain ⟨m, hm, e⟩ := h.all n hn
        obtain ⟨X, hX⟩ := h.node n hn
        obtain ⟨Y, hY⟩ := h.node m (hmem m hm)
        rw [e] at hY
        rw [hX.det hY]
        exact depthL_le.1 (Nat.le_refl (depthL (trs Bl))) _ (List.mem_map.2 ⟨m, hm, rfl⟩)
      · rw [depthL_le]
        intro t ht
        obtain ⟨n, hn, rfl⟩ := List.mem_map.1 ht
        exact depthL_le.1 (Nat.le_refl (depthL (trs PL))) _ (List.mem_map.2 ⟨n, hmem n hn, rfl⟩)
    have := ho.deep
    omega
  · obtain ⟨u, hu, hnu⟩ := h.par n (hmem n hn)
    obtain ⟨P, hlen, hall, hpw⟩ := ho.path u hu
    have hlt : sizeT n.2 < sizeT u.2 := by
      have := sizeL_mem hnu
      rw [sizeT_ps u.2]; omega
    refine ⟨P ++ [n], by simp [hlen], fun m hm => ?_, ?_⟩
    · rcases List.mem_append.1 hm with hm | hm
      · obtain ⟨a1, a2, a3⟩ := hall m hm
        exact ⟨a1, h.keys.1 _ a2, by omega⟩
      · obtain rfl := List.mem_singleton.1 hm
        exact ⟨h.node m (hmem m hn), h.keys.2 m hn, Nat.le_refl _⟩
    · refine List.pairwise_append.2 ⟨hpw, List.pairwise_singleton _ _, fun x hx y hy => ?_⟩
      obtain rfl := List.mem_singleton.1 hy
      have := (hall x hx).2.2
      omega
  · have := sizeL_sub (h.sub.map (·.2))
    have : sizeL (trs Bl) ≤ sizeL (trs PL) := this
    omega
  · have h1 := h.few
    have h2 := ho.few
    have h3 := length_sizeL (trs PL)
    have h4 : (trs PL).length = PL.length := by simp [trs]
    rw [Nat.add_mul]
    omega
set_option maxRecDepth 100000 in
theorem hpsnext (l : List Tr) (i : Nat) (h : i < l.length) : l.take (i + 1) = l.take i ++ [l[i]] := List.take_succ_eq_append_getElem h
set_option maxRecDepth 100000 in
theorem sizeL_take (l : List Tr) (k : Nat) : sizeL (l.take k) ≤ sizeL l := sizeL_sub (List.take_sublist k l)
set_option maxRecDepth 100000 in
theorem sizeL_done {L : LT} {PL : LT} {n : Addr × Tr} {k i S : Nat} (h : trs PL = (trs (L.take k)).flatMap Tr.ps ++ n.2.ps.take i) (hs : sizeL (trs L) ≤ S) (hn : ∀ hk : k < L.length, L[k] = n) (hk : k < L.length) : sizeL (trs PL) ≤ S := by
  rw [h, sizeL_append]
  have h1 := sizeL_take n.2.ps i
  have h2 := sizeL_flat (trs (L.take k))
  have h3 : trs (L.take (k + 1)) = trs (L.take k) ++ [n.2] := by
    rw [List.take_succ_eq_append_getElem hk, hn hk, trs_snoc]
  have h4 : sizeL (trs (L.take (k + 1))) ≤ sizeL (trs L) := sizeL_sub (List.Sublist.map (fun x : Addr × Tr => x.2) (List.take_sublist (k + 1) L))
  rw [h3, sizeL_append] at h4
  have h5 : sizeL [n.2] = 1 + sizeL n.2.ps := by rw [sizeL, sizeL, sizeT_ps]; rfl
  omega
end Go.Proofs.YtllgodaphoncnaaGreatDoor
namespace Go.Proofs.YtllgodaphoncnaaGreatDoor
open Go.RowKit

def ptrsL (L : LT) : List Value := L.map fun n => Value.pointer (some n.1)
/-- a row of one's own of these addresses -/
structure OwnP (w : World) (base : Nat) (v : Value) (L : LT) : Prop where
  row : w.ownsRow base 74 1 v L.length (ptrsL L)
set_option maxRecDepth 100000 in
theorem append_ptr {w : World} {ops : Array Oper} {rest : List Oper} {o : Oper} {a : Act} {Q : Exit → Act → World → Prop} (hgd : o.guard = none) (s x : Operand)
    (ho : o.op = .call { callee := .builtin .append, args := #[s, x], argTypes := #[75, 75] })
    (base : Nat) (L : LT) (n : Addr × Tr) (v : Value) (hs : a.eval s = v) (hown : OwnP w base v L) (g c : Nat) (hx : a.eval x = .slice (some ⟨g, 0, none⟩) 1 c) (hg : w.heap[g]? = some (.cells #[.pointer (some n.1)] 74 (0, 0))) (hlen : L.length ≤ 1000000) (hbase : base ≤ w.heap.size)
    (k : ∀ v' w', OwnP w' base v' (L ++ [n]) → Below base w w' → wpList Tryz.prog ops Q rest (a.put o.dst v') w') : wpList Tryz.prog ops Q (o :: rest) a w := by
  obtain ⟨i, hi, hz, hsz, hby⟩ := info_parts (show (Tryz.prog.info? 74).map (fun i => (i.zero, i.size, i.bytes)) = some (some (.pointer none), 1, 8) by kernel_rfl)
  refine wpList_append_own_wide w hgd s x 75 ho base 74 i _ 1 8 Tryz.underlying75 hi hz hsz hby rfl (by omega) v L.length (ptrsL L) hs hown.row ⟨g, 0, none⟩ 1 c [.pointer (some n.1)] hx rfl (fun j u hj => by
    rw [Addr.add_mid, Nat.zero_add, cell_block hg]
    simpa using hj) (fun u hu => by obtain rfl := List.mem_singleton.1 hu; rfl) (by unfold maxLen; omega) (by omega) hbase ?_
  intro v' w' hown' hgr _
  refine k v' w' ⟨by rw [List.length_append, ptrsL, List.map_append]; exact hown'⟩ ((Below.refl base w).grown hgr hbase (fun b hb => (hown.row.lt b hb).1))
/-- addresses in memory, in blocks behind M -/
structure PtrsAt (w : World) (M : Nat) (v : Value) (L : LT) : Prop where
  at' : ∃ (ad : Option Addr) (g cap : Nat), v = .slice ad L.length cap ∧ (L ≠ [] → ad = some ⟨g, 0, none⟩ ∧ M < g) ∧ ∀ i, (hi : i < L.length) → w.cell? ⟨g, i, none⟩ = some (.pointer (some L[i].1))
set_option maxRecDepth 100000 in
theorem OwnP.ptrs {w : World} {base M : Nat} {v : Value} {L : LT} (h : OwnP w base v L) (hM : M < base) : PtrsAt w M v L := by
  rcases h.row.2 with ⟨rfl, hn⟩ | ⟨g, cap, cur, rfl, hb, hg, hc, hm, hcs, ht⟩
  · have : L = [] := List.eq_nil_of_length_eq_zero hn
    subst this
    exact ⟨none, 0, 0, rfl, fun h => absurd rfl h, fun i hi => absurd hi (by simp)⟩
  · refine ⟨some ⟨g, 0, none⟩, g, cap, rfl, fun _ => ⟨rfl, by omega⟩, fun i hi => ?_⟩
    rw [cell_block hg i]
    have e : (ptrsL L)[i]? = cur[i]? := by
      rw [← ht, List.getElem?_take, if_pos (by omega)]
      simp
    rw [← e, ptrsL, List.getElem?_map, List.getElem?_eq_getElem hi]; rfl
set_option maxRecDepth 100000 in
theorem PtrsAt.kept {w w' : World} {M : Nat} {v : Value} {L : LT} (h : PtrsAt w M v L) (hk : ∀ k, M < k → k < w.heap.size → w'.heap[k]? = w.heap[k]?) : PtrsAt w' M v L := by
  obtain ⟨ad, g, cap, e, h1, h2⟩ := h.at'
  refine ⟨ad, g, cap, e, h1, fun i hi => ?_⟩
  have h0 := h2 i hi
  rw [← h0]
  exact World.cell?_of_block (w := w) (hk g (h1 (by intro e; subst e; cases hi)).2 (block_lt_of_cell h0))
structure RowP (w : World) (g : Nat) (L : LT) : Prop where
  at' : ∀ i, (hi : i < L.length) → w.cell? ⟨g, i, none⟩ = some (.pointer (some L[i].1))
set_option maxRecDepth 100000 in
theorem RowP.kept {w w' : World} {g : Nat} {L : LT} (h : RowP w g L) (hk : w'.heap[g]? = w.heap[g]?) : RowP w' g L :=
  ⟨fun i hi => by rw [← h.at' i hi]; exact World.cell?_of_block (w := w) hk⟩
/-- the worlds of the walk: what was there stays, and the map -/
structure DW (w1 W : World) (F : List (Addr × Int)) : Prop where
  below : Below w1.heap.size w1 W
  map : MapIs W w1.heap.size F
  old : ∀ x ∈ F, PlainB w1 x.1
set_option maxRecDepth 100000 in
theorem PlainB.low {w w' : World} {a : Addr} (h : PlainB w a) (hb : Below w.heap.size w w') : PlainB w' a := by
  obtain ⟨C, T, hg⟩ := h
  exact ⟨C, T, (hb.block _ (lt_block hg)).trans hg⟩
set_option maxRecDepth 100000 in
/-- blocks are made, or turned that are new behind a base -/
theorem DW.over {w1 W W' : World} {F : List (Addr × Int)} {base : Nat} (h : DW w1 W F) (hb : Below base W W') (hM : w1.heap.size < base) : DW w1 W' F := by
  have hbel : Below w1.heap.size w1 W' := h.below.trans (hb.mono (Nat.le_of_lt hM))
  obtain ⟨es, clk, hg, he⟩ := h.map.map
  exact ⟨hbel, ⟨⟨es, clk, (hb.block _ hM).trans hg, he⟩, fun x hx => (h.old x hx).low hbel⟩, h.old⟩
set_option maxRecDepth 100000 in
theorem len_map {w : World} {M : Nat} {F : List (Addr × Int)} (h : MapIs w M F) (ty : TypeId) : (Builtin.len_ #[73] ty #[.map (some M)]).run Tryz.prog w = .ok (.int .i64 F.length) w := by
  obtain ⟨es, clk, hg, he⟩ := h.map
  have hlen : es.size = F.length := by
    have := congrArg List.length he
    simpa using this
  simp [Builtin.len_, run_underlying Tryz.underlying73, MapKept.run_getObj_map hg, hlen, goInt]
set_option maxRecDepth 100000 in
theorem look_map {w : World} {M : Nat} {F : List (Addr × Int)} {a : Addr} (h : MapIs w M F) (ha : PlainB w a) : (Instr.lookup 73 (.map (some M)) (.pointer (some a)) false).run Tryz.prog w = .ok (.int .i64 (lookF a F)) w := by
  obtain ⟨j, hj, hs⟩ : ∃ j, Tryz.prog.info? 27 = some j ∧ j.size ≠ 0 := by
    have h0 : (Tryz.prog.info? 27).map (·.size) = some 8 := by kernel_rfl
    obtain ⟨j, h1, h2⟩ := Option.map_eq_some_iff.1 h0
    exact ⟨j, h1, by rw [h2]; decide⟩
  exact run_lookup_ptr Tryz.underlying73 Tryz.underlying74 hj hs (by kernel_rfl) ha h
set_option maxRecDepth 100000 in
theorem put_map {w : World} {M : Nat} {F : List (Addr × Int)} {a : Addr} (v : Int) (h : MapIs w M F) (ha : PlainB w a) :
    ∃ w', (Instr.mapUpdate 73 (.map (some M)) (.pointer (some a)) (.int .i64 v)).run Tryz.prog w = .ok () w' ∧ Kept1 M w w' ∧ MapIs w' M (putF' a v F) ∧ w'.heap.size = w.heap.size := by
  obtain ⟨j, hj, hs⟩ : ∃ j, Tryz.prog.info? 27 = some j ∧ j.size ≠ 0 := by
    have h0 : (Tryz.prog.info? 27).map (·.size) = some 8 := by kernel_rfl
    obtain ⟨j, h1, h2⟩ := Option.map_eq_some_iff.1 h0
    exact ⟨j, h1, by rw [h2]; decide⟩
  exact run_update_ptr v Tryz.underlying73 Tryz.underlying74 hj hs ha h
set_option maxRecDepth 100000 in
theorem mem_put {a : Addr} {v : Int} {F : List (Addr × Int)} {x : Addr × Int} (h : x ∈ putF' a v F) : x.1 = a ∨ x ∈ F := by
  unfold putF' at h
  split at h
  · rcases List.mem_or_eq_of_mem_set h with h | rfl
    · exact .inr h
    · exact .inl rfl
  · rcases List.mem_append.1 h with h | h
    · exact .inr h
    · obtain rfl := List.mem_singleton.1 h; exact .inl rfl
set_option maxRecDepth 100000 in
theorem DW.put {w1 W : World} {F : List (Addr × Int)} {a : Addr} (v : Int) (h : DW w1 W F) (ha : PlainB w1 a) :
    ∃ W', (Instr.mapUpdate 73 (.map (some w1.heap.size)) (.pointer (some a)) (.int .i64 v)).run Tryz.prog W = .ok () W' ∧ DW w1 W' (putF' a v F) ∧ (∀ k, w1.heap.size < k → W'.heap[k]? = W.heap[k]?) ∧ W'.heap.size = W.heap.size := by
  obtain ⟨W', h1, h2, h3, h4⟩ := put_map v h.map (ha.low h.below)
  refine ⟨W', h1, ⟨⟨h2.os.trans h.below.os, h2.tape.trans h.below.tape, h2.output.trans h.below.output, by rw [h4]; exact h.below.size, fun k hk => ?_⟩, h3, fun x hx => ?_⟩, fun k hk => ?_, h4⟩
  · have hs := h.below.size
    exact (h2.block k (by omega) (by omega)).trans (h.below.block k hk)
  · rcases mem_put hx with e | hx
    · rw [e]; exact ha
    · exact h.old x hx
  · rcases Nat.lt_or_ge k W.heap.size with hl | hl
    · exact h2.block k hl (by omega)
    · rw [Array.getElem?_eq_none hl, Array.getElem?_eq_none (by omega)]
set_option maxRecDepth 100000 in
theorem OwnP.kept {w w' : World} {base : Nat} {v : Value} {L : LT} (h : OwnP w base v L) (hk : ∀ k, base ≤ k → k < w.heap.size → w'.heap[k]? = w.heap[k]?) : OwnP w' base v L := by
  obtain ⟨h1, h2⟩ := h.row
  refine ⟨⟨h1, ?_⟩⟩
  rcases h2 with h2 | ⟨g, cap, cur, e, hg, hc, rest⟩
  · exact .inl h2
  · exact .inr ⟨g, cap, cur, e, hg, (hk g hg (lt_block hc)).trans hc, rest⟩
end Go.Proofs.YtllgodaphoncnaaGreatDoor
