/- Write; A record's sectors are written; A record is appended. -/
import Derived.Test.YtlhfdlfbnnfjjaaDoorJ30
import Derived.BigRegion
import Derived.Test.YtlhfdlfbnnfjjaaDoorJ25
namespace Go.Proofs.YtlhfdlfbnnfjjaaDoor
open Go.RowKit

/-- the state behind a write that is done -/
def DSt.wrote (s : DSt) (i : Nat) (b : List UInt8) : DSt := ({ s with S := s.S.set i b, ws := s.ws ++ [⟨i, s.S[i]?.getD [], b⟩] } : DSt).burnt
/-- what a write that is done leaves -/
structure Wrote (w : World) (N d gs : Nat) (v : Value) (s : DSt) (v' : Value) (w' : World) : Prop where
  at' : DAt w' N d gs v' s
  kept : KeptF (foot d gs v) w w'
  own : ∀ k, v'.ownBlock = some k → v.ownBlock = some k ∨ w.heap.size ≤ k

set_option maxRecDepth 100000 in
theorem write_gone (w : World) (N d gs : Nat) (v : Value) (s : DSt) (h : DAt w N d gs v s) (hg : s.gone = true) (i : Int) (b : Value) :
    Calls Tryd.prog 33 #[.pointer (some ⟨d, 0, none⟩), .int .i64 i, b] w fun e w' => e = .returned (.int .i64 5) ∧ w = w' := by
  obtain ⟨c0, c1, c2, c3⟩ := h.cell
  rw [hg] at c3
  clear h c0 c1 c2 hg
  go_enter Tryd.func33, Tryd.ntmps33
  go_wp2_with fail
  go_ret
  exact ⟨rfl, rfl⟩
set_option maxRecDepth 100000 in
theorem write_no (w : World) (N d gs : Nat) (v : Value) (s : DSt) (h : DAt w N d gs v s) (hg : s.gone = false) (i : Int) (hi : ¬ (0 ≤ i ∧ i < s.S.length)) (b : Value) :
    Calls Tryd.prog 33 #[.pointer (some ⟨d, 0, none⟩), .int .i64 i, b] w fun e w' => e = .returned (.int .i64 1) ∧ w = w' := by
  obtain ⟨c0, c1, c2, c3⟩ := h.cell
  rw [hg] at c3
  have H := Lib.hid h
  have Hi := Lib.hid hi
  clear h c0 c1 c2 hg hi
  go_enter Tryd.func33, Tryd.ntmps33
  go_wp2_with fail
  refine (has_no w N d gs v s H.out i Hi.out).mono ?_
  rintro e w' ⟨rfl, rfl⟩
  go_wp2_with fail
  go_ret
  exact ⟨rfl, rfl⟩
set_option maxRecDepth 100000 in
theorem write_len (w : World) (N d gs : Nat) (v : Value) (s : DSt) (h : DAt w N d gs v s) (hg : s.gone = false) (i : Nat) (hi : i < s.S.length) (ad : Option Addr) (n cap : Nat) (hn : n ≠ 64) :
    Calls Tryd.prog 33 #[.pointer (some ⟨d, 0, none⟩), .int .i64 (i : Int), .slice ad n cap] w fun e w' => e = .returned (.int .i64 1) ∧ w = w' := by
  obtain ⟨c0, c1, c2, c3⟩ := h.cell
  rw [hg] at c3
  have H := Lib.hid h
  have h1 : ((n : Int) != 64) = true := by simp; omega
  have h2 : ((n : Int) == 64) = false := by simp; omega
  have h3 : (n != 64) = true := by simp; omega
  have h4 : (n == 64) = false := by simp; omega
  clear h c0 c1 c2 hg
  go_enter Tryd.func33, Tryd.ntmps33
  go_wp2_with fail
  refine (has_yes w N d gs v s H.out i hi).mono ?_
  rintro e w' ⟨rfl, rfl⟩
  go_wp2_with fail
  go_ret
  exact ⟨rfl, rfl⟩

set_option maxRecDepth 100000 in
theorem run_array_op {o : Oper} {a : Act} (x : Operand) (ho : o.op = .sliceToArrayPointer 86 x) (ad : Option Addr) (cap : Nat) (hx : a.eval x = .slice ad 64 cap) (w : World) : (execOp a.eval o).run Tryd.prog w = .ok (.value (.pointer ad)) w := by
  unfold execOp
  simp [ho, hx, Instr.arrayAt, run_underlying Tryd.underlying86]
/-- behind the append, and the store of the row -/
structure Six (w : World) (N d gs : Nat) (v : Value) (s : DSt) (v' : Value) (w' : World) : Prop where
  at' : DAt w' N d gs v' s
  kept : KeptF (foot d gs v) w w'
  own : ∀ k, v'.ownBlock = some k → v.ownBlock = some k ∨ w.heap.size ≤ k
set_option maxRecDepth 100000 in
theorem grown_d {w2 w2' w3 : World} {N d gs : Nat} {v : Value} {s : DSt} (_ : DAt w2 N d gs v s) (hb : Below w2.heap.size w2 w2') (hgr : w2'.grownBy w3 v.ownBlock) (k : Nat) (hk : k < w2.heap.size) (hv : v.ownBlock ≠ some k) : w3.heap[k]? = w2.heap[k]? :=
  (hgr.block k (by have := hb.size; omega) (fun e => hv e.symm)).trans (hb.block k hk)
set_option maxRecDepth 100000 in
theorem six_of {w2 w2' w3 : World} {N d gs g' cap' : Nat} {v : Value} {s : DSt} {r : WrR} (D : DAt w2 N d gs v s) (hb : Below w2.heap.size w2 w2')
    (hown : w3.ownsRow N 96 129 (.slice (some ⟨g', 0, none⟩) (s.ws.length + 1) cap') (s.ws.length + 1) (cellsW (s.ws ++ [r]))) (hgr : w2'.grownBy w3 v.ownBlock) (hg' : v.ownBlock = some g' ∨ g' = w2'.heap.size)
    (hr : r.place < s.S.length ∧ r.before.length = 64 ∧ r.after.length = 64) :
    Six w2 N d gs v { s with ws := s.ws ++ [r] } (.slice (some ⟨g', 0, none⟩) (s.ws.length + 1) cap') (w3.setCell ⟨d, 1, none⟩ (.slice (some ⟨g', 0, none⟩) (s.ws.length + 1) cap')) := by
  have hsz := hb.size
  have hnd : g' ≠ d := fun e => by
    subst e
    rcases hg' with h | h
    · exact D.nd h
    · have := D.lt.1; omega
  have hng : g' ≠ gs := fun e => by
    subst e
    rcases hg' with h | h
    · exact D.ng h
    · have := D.lt.2; omega
  have hbd := (grown_d D hb hgr d D.lt.1 D.nd).trans D.blk
  have hbg := (grown_d D hb hgr gs D.lt.2 D.ng).trans D.sec
  have oth : ∀ k, k ≠ d → (w3.setCell ⟨d, 1, none⟩ (.slice (some ⟨g', 0, none⟩) (s.ws.length + 1) cap')).heap[k]? = w3.heap[k]? := fun k hk => Below.heap_setCell _ _ _ _ (by exact hk)
  refine ⟨⟨heap_set hbd 1 _, (oth gs D.ne).trans hbg, ?_, ⟨D.ok.len, D.ok.lim, fun x hx => ?_⟩, D.ne, (fun e => hnd (by injection e)), (fun e => hng (by injection e)), D.dN, D.gN⟩, ?_, fun k hk => ?_⟩
  · rw [List.length_append]
    exact own_same hown fun g hg => by injection hg with hg; subst hg; exact oth _ hnd
  · rcases List.mem_append.1 hx with hx | hx
    · exact D.ok.wok x hx
    · rw [List.mem_singleton.1 hx]; exact hr
  · have k1 : KeptF (foot d gs v) w2 w2' := .of_below hb
    have k2 : KeptF (foot d gs v) w2' w3 := .of_grown hgr fun b e => .inr (.inr e)
    have k3 : KeptF (foot d gs v) w3 (w3.setCell ⟨d, 1, none⟩ (.slice (some ⟨g', 0, none⟩) (s.ws.length + 1) cap')) := .of_kept1 ((Kept1.refl d w3).setCell _ (.inl rfl) _) (fun _ => .inl rfl)
    exact (k1.trans k2 fun _ _ h => h).trans k3 fun _ _ h => h
  · injection hk with hk
    subst hk
    rcases hg' with h | h
    · exact .inl h
    · exact .inr (by show w2.heap.size ≤ g'; omega)
set_option maxRecDepth 100000 in
/-- a sector is written -/
theorem DAt.put {w : World} {N d gs : Nat} {v : Value} {s : DSt} (h : DAt w N d gs v s) (i : Nat) (hi : i < s.S.length) (b : List UInt8) (hb : b.length = 64) :
    DAt (w.setCells gs (i * 64) (b.map B)) N d gs v { s with S := s.S.set i b } ∧ Kept1 gs w (w.setCells gs (i * 64) (b.map B)) := by
  have hk : Kept1 gs w (w.setCells gs (i * 64) (b.map B)) := Kept1.setCells gs (.inl rfl) _ _ (Kept1.refl gs w)
  have hlen := length_secs h.ok.len
  have hsec := heap_setCells gs 86 (b.map B) (i * 64) (secsC s.S) w h.sec (by rw [hlen, List.length_map, hb]; have := Nat.mul_le_mul_right 64 (Nat.succ_le_of_lt hi); omega)
  rw [secs_set h.ok.len i hi b hb] at hsec
  refine ⟨⟨?_, hsec, own_same h.wait fun g hg => hk.block g (h.wait.lt g hg).2 (fun e => h.ng (by rw [hg, e])), ⟨fun x hx => ?_, by simpa using h.ok.lim, by simpa using h.ok.wok⟩, h.ne, h.nd, h.ng, h.dN, h.gN⟩, hk⟩
  · rw [hk.block d h.lt.1 (Ne.symm h.ne), h.blk]
    simp [DSt.cells]
  · rcases List.mem_or_eq_of_mem_set hx with hx | rfl
    · exact h.ok.len x hx
    · exact hb
set_option maxRecDepth 100000 in
/-- what a write has behind its place and what stood there -/
theorem range_after {w : World} {G : Nat} {t : TypeId} {r : WrR} (h : w.heap[G]? = some (.cells r.cells.toArray t (0, 0))) (hb : r.before.length = 64) : w.rangeAt G 65 (r.after.map B) := fun j x hx => by
  rw [cell_block h, List.getElem?_toArray]
  unfold WrR.cells
  rw [show 65 + j = (64 + j) + 1 by omega, List.getElem?_cons_succ, List.getElem?_append_right (by rw [List.length_map]; omega), List.length_map, hb, Nat.add_sub_cancel_left, hx]
set_option maxRecDepth 100000 in
theorem range_before {w : World} {G : Nat} {t : TypeId} {r : WrR} (h : w.heap[G]? = some (.cells r.cells.toArray t (0, 0))) : w.rangeAt G 1 (r.before.map B) := fun j x hx => by
  have hj := (List.getElem?_eq_some_iff.1 hx).1
  rw [cell_block h, List.getElem?_toArray]
  unfold WrR.cells
  rw [show 1 + j = j + 1 by omega, List.getElem?_cons_succ, List.getElem?_append_left hj, hx]
set_option maxRecDepth 100000 in
theorem there_sec {w : World} {N d gs : Nat} {v : Value} {s : DSt} (h : DAt w N d gs v s) (i : Nat) (hi : i < s.S.length) : w.there gs (i * 64) 64 :=
  there_blk h.sec _ _ (by rw [length_secs h.ok.len]; have := Nat.mul_le_mul_right 64 (Nat.succ_le_of_lt hi); omega)
set_option maxRecDepth 100000 in
theorem joinP {G : Prop} {C : Value → World → Prop} (P : Value → World → Prop) (main : (∀ v w, C v w → P v w) → G) (rest : ∀ v w, C v w → P v w) : G := main rest
set_option maxRecDepth 100000 in
set_option maxHeartbeats 2000000 in
theorem dwrite_any (w : World) (N d gs : Nat) (v : Value) (s : DSt) (h : DAt w N d gs v s) (hg : s.gone = false) (i : Nat) (hi : i < s.S.length) (b : List UInt8) (hb : b.length = 64) (g o cap : Nat)
    (hsrc : w.rangeAt g o (b.map B)) (hglt : g < w.heap.size) (hws : s.ws.length ≤ 1000) (hf : s.fuse ≤ 9223372036854775807) :
    Calls Tryd.prog 33 #[.pointer (some ⟨d, 0, none⟩), .int .i64 (i : Int), .slice (some ⟨g, o, none⟩) 64 cap] w fun e w' => e = .returned (.int .i64 0) ∧ ∃ v', Wrote w N d gs v (s.wrote i b) v' w' := by
  obtain ⟨c0, c1, c2, c3⟩ := h.cell
  have hdlt := h.lt.1
  have hgslt := h.lt.2
  have hr := h.range i hi
  obtain ⟨r, hrd⟩ : ∃ r : WrR, r = ⟨i, s.S[i], b⟩ := ⟨_, rfl⟩
  have hr1 : r.before.length = 64 := by rw [hrd]; exact h.ok.len _ (List.getElem_mem hi)
  have hr2 : r.after.length = 64 := by rw [hrd]; exact hb
  have hbuilt := built_wr r hr1 hr2
  have hcl := length_cells r hr1 hr2
  have e1 : s.S[i] = r.before := by rw [hrd]
  have e2 : b = r.after := by rw [hrd]
  have e3 : i = r.place := by rw [hrd]
  rw [e1] at hr
  rw [e2] at hsrc
  have Hr := Lib.hid hr
  have Hsrc := Lib.hid hsrc
  have Hbuilt := Lib.hid hbuilt
  have Hcl := Lib.hid hcl
  have Hrd := Lib.hid hrd
  have H1 := Lib.hid hr1
  have H2 := Lib.hid hr2
  have H := Lib.hid h
  have E3 := Lib.hid e3
  have hb64 : (r.before.map B).length = 64 := by simpa using hr1
  have ha64 : (r.after.map B).length = 64 := by simpa using hr2
  rw [hg] at c3
  have hlim := h.ok.lim
  have i1 : (0 : Int) ≤ (i : Int) := by omega
  have i2 : (i : Int) < (s.S.length : Int) := by omega
  have hz129 : z129.length = 129 := rfl
  have hzv := zero_wr'
  have Hb64 := Lib.hid hb64
  have Ha64 := Lib.hid ha64
  have Hz := Lib.hid hz129
  generalize z129 = Z at *
  clear h hr hsrc hbuilt hcl hrd hr1 hr2 e1 e2 e3 hb64 ha64 hz129 hg c1 c2
  go_enter Tryd.func33, Tryd.ntmps33
  go_wp2_with fail
  refine (has_yes w N d gs v s H.out i hi).mono ?_
  rintro e w' ⟨rfl, rfl⟩
  go_wp2_with fail
  refine wp_region_fresh 13 [.calm, .calm, .calm, .calm, .calm, .calm, .calm, .calm, .calm, .calm, .calm, .calm, .fresh] (fun _ => .cells Z.toArray 96) (fun _ => .cells Z.toArray 96) (fun _ G => .pointer (some ⟨G, 0, none⟩)) (by kernel_rfl) (by kernel_rfl) (by kernel_rfl) ?_
  intro R hR
  have hne := hR.nonempty
  simp only [List.take_succ_cons, List.take_zero, List.drop_succ_cons, List.drop_zero, calmL]
  have cm0 : ∀ m : BlR w R, m.wr.cell? ⟨d, 0, none⟩ = some (.slice (some ⟨gs, 0, none⟩) s.S.length s.S.length) := fun m => by rw [m.below.cell (by exact hdlt)]; exact c0
  iterate 7 (go_big_quiet_step (fail))
  refine wpQuiet_load_mid rfl 86 (.tmp 27) rfl gs (i * 64) (by first | rfl | (simp [Act.eval]; omega)) (r.before.map B) _ (fun w' ⟨m, hw'⟩ => hw' ▸ range_below m.below Hr.out hgslt) Tryd.underlying86 rfl (info_sec _ Hb64.out) ?_
  simp only [Act.put, List.setIfInBounds_toArray, List.set_cons_succ, List.set_cons_zero]
  go_big_quiet_step (fail)
  refine wpQuiet_of_op rfl (.pointer (some ⟨g, o, none⟩)) (fun w' _ => run_array_op (.tmp 29) rfl _ cap rfl w') ?_
  simp only [Act.put, List.setIfInBounds_toArray, List.set_cons_succ, List.set_cons_zero]
  refine wpQuiet_load_mid rfl 86 (.tmp 30) rfl g o (by first | rfl | (simp [Act.eval]; omega)) (r.after.map B) _ (fun w' ⟨m, hw'⟩ => hw' ▸ range_below m.below Hsrc.out hglt) Tryd.underlying86 rfl (info_sec _ Ha64.out) ?_
  simp only [Act.put, List.setIfInBounds_toArray, List.set_cons_succ, List.set_cons_zero]
  refine wpQuiet_of_op rfl (.agg r.cells.toArray) (fun w' _ => run_buildd_op 96 _ rfl [(0, .int .i64 (r.place : Int)), (1, .agg (r.before.map B).toArray), (2, .agg (r.after.map B).toArray)] (by rw [← E3.out]; kernel_rfl) _ Hbuilt.out) ?_
  simp only [Act.put, List.setIfInBounds_toArray, List.set_cons_succ, List.set_cons_zero]
  refine wpQuiet_nil ?_
  refine ⟨?_, ?_⟩
  · simp only [obF, Nat.reduceAdd]
    exact ⟨⟨fun a' w' _ _ => run_alloc_op 96 rfl Z hzv w', .inl trivial⟩, trivial⟩
  intro γ w1 hf1
  clear hR hne R cm0
  simp only [putF, Nat.reduceAdd, Act.put, List.setIfInBounds_toArray, List.set_cons_succ, List.set_cons_zero]
  obtain ⟨gna, hn⟩ := hf1.block 12 rfl
  have hb1 := hf1.below
  clear hf1
  generalize γ 12 = G at *
  refine wpList_store_row rfl 96 (.tmp 7) (.tmp 32) rfl G r.cells.toArray rfl rfl 96 Z.toArray hn (info_wr _ (by simp [Hcl.out])) (by simp [Hz.out, Hcl.out]) (all_oneCell_toArray (one_wr r)) ?_
  simp only [Act.put]
  have sn := set1_setRow (cells := r.cells.toArray) hn
  generalize w1.setRow G r.cells.toArray = w2 at *
  have hG := sn.new
  have hb2 := sn.below hb1 gna
  clear sn hn hb1
  have D2 := H.out.below hb2
  have HG := Lib.hid hG
  have HB2 := Lib.hid hb2
  have HD2 := Lib.hid D2
  clear hG hb2 D2 c0 c3
  obtain ⟨c0, c1, c2, c3⟩ := HD2.out.cell
  have f1 := HD2.out.frozen 1
  have hG2 : G < w2.heap.size := lt_block HG.out
  have hNle : N ≤ w2.heap.size := by have := HD2.out.dN; have := HD2.out.lt.1; omega
  have HRG := Lib.hid (range_block0 HG.out)
  have BEL : Hid (Below w2.heap.size w2 (w2.drew.alloc (.cells r.cells.toArray 96))) := Lib.hid ((Below.refl w2.heap.size w2).drew.alloc (Nat.le_refl _) _)
  have OWN : Hid ((w2.drew.alloc (.cells r.cells.toArray 96)).ownsRow N 96 129 v s.ws.length (cellsW s.ws)) := Lib.hid (own_same HD2.out.wait fun g hg => BEL.out.block g (HD2.out.wait.lt g hg).2)
  have SRC : Hid ((w2.drew.alloc (.cells r.cells.toArray 96)).heap[w2.heap.size]? = some (.cells r.cells.toArray 96 (0, 0))) := Lib.hid (heap_alloc_new w2.drew _)
  have RO : Hid (r.place < s.S.length ∧ r.before.length = 64 ∧ r.after.length = 64) := Lib.hid ⟨by rw [← E3.out]; exact hi, H1.out, H2.out⟩
  have C3 : Hid (∀ w3, (w2.drew.alloc (.cells r.cells.toArray 96)).grownBy w3 v.ownBlock → w3.cell? ⟨d, 1, none⟩ = some v ∧ w3.frozen? ⟨d, 1, none⟩ = false) := Lib.hid (fun w3 hgr => by
    have hbd := (grown_d HD2.out BEL.out hgr d HD2.out.lt.1 HD2.out.nd).trans HD2.out.blk
    exact ⟨by rw [cell_block hbd]; rfl, frozen_of_row w3 d 1 _ _ hbd⟩)
  have c1a : (w2.alloc (.cells r.cells.toArray 96)).cell? ⟨d, 1, none⟩ = some v := by rw [World.cell?_alloc_lt _ _ _ (by exact HD2.out.lt.1)]; exact c1
  go_wp2_with fail
  apply joinP (C := fun v' w' => Hid (Six w2 N d gs v { s with ws := s.ws ++ [r] } v' w'))
  case main =>
    intro key
    have HKEY := Lib.hid key
    clear key
    refine wp_region_any (by kernel_rfl) ?_
    change wpAny _ _ _ _ _ _ _ (World.drew _)
    refine wpAny_take (i := 0) (v := ?_) rfl (by kernel_rfl) (by kernel_rfl) (by kernel_rfl) (fun _ _ _ h => h) (Or.inl ⟨by rfl, ?_⟩) ?_
    rotate_left 1
    · intro w; go_simp; try with_reducible rfl
    refine wpAny_take (i := 1) (v := ?_) rfl (by kernel_rfl) (by kernel_rfl) (by kernel_rfl) (fun _ _ _ h => h) (Or.inl ⟨by rfl, ?_⟩) ?_
    rotate_left 1
    · intro w; go_simp; try with_reducible rfl
    refine wpAny_take (i := 2) (v := ?_) rfl (by kernel_rfl) (by kernel_rfl) (by kernel_rfl) (fun _ _ _ h => h) (Or.inl ⟨by rfl, ?_⟩) ?_
    rotate_left 1
    · intro w; go_simp; try with_reducible rfl
    refine wpAny_take (i := 3) (v := ?_) rfl (by kernel_rfl) (by kernel_rfl) (by kernel_rfl) (fun _ _ _ h => h) (Or.inl ⟨by rfl, ?_⟩) ?_
    rotate_left 1
    · intro w; go_simp; try with_reducible rfl
    refine wpAny_ready (rs := [4, 5]) (by kernel_rfl) (by simp) ?_
    refine AllReady.cons rfl (fun K hK => ?_) ?_
    · go_simp
      refine hK _ _ ?_; clear hK K
      refine wpAny_ready (rs := [5]) (by kernel_rfl) (by simp) ?_
      refine AllReady.cons rfl (fun K hK => ?_) ?_
      · refine step_run rfl _ _ (run_load_op 96 (.tmp 7) rfl G 0 rfl r.cells _ (by simpa using HRG.out) Tryd.underlying96 rfl (info_wr _ Hcl.out)) ?_
        simp only [Act.put, List.setIfInBounds_toArray]
        refine hK _ _ ?_; clear hK K
        refine wpAny_ready (rs := [6]) (by kernel_rfl) (by simp) ?_
        refine AllReady.cons rfl (fun K hK => ?_) ?_
        · refine step_run rfl _ _ (run_build1d_op 52 96 (.tmp 38) rfl r.cells Z rfl Tryd.underlying52 (fun w => by rw [Hcl.out]; exact size_wr w) hzv (by rw [Hcl.out]; omega) (by rw [Hcl.out]; omega) _) ?_
          simp only [Act.put]
          refine hK _ _ ?_; clear hK K
          refine wpAny_ready (rs := [7]) (by kernel_rfl) (by simp) ?_
          refine AllReady.cons rfl (fun K hK => ?_) ?_
          · refine step_append_w rfl (.tmp 37) (.tmp 39) rfl N s.ws r v rfl OWN.out w2.heap.size rfl SRC.out Hcl.out (by omega) (by simp; omega) ?_
            intro g' cap' w3 hown3 hgr3 hg3
            have S6 := Lib.hid (six_of HD2.out BEL.out hown3 hgr3 hg3 RO.out)
            obtain ⟨p1, q1⟩ := C3.out w3 hgr3
            clear hown3 hgr3 hg3
            simp only [Act.put]
            refine hK _ _ ?_; clear hK K
            refine wpAny_ready (rs := [8]) (by kernel_rfl) (by simp) ?_
            refine AllReady.cons rfl (fun K hK => ?_) ?_
            · go_simp
              refine hK _ _ ?_; clear hK K
              refine wpAny_ready (rs := [9]) (by kernel_rfl) (by simp) ?_
              refine AllReady.cons rfl (fun K hK => ?_) ?_
              · go_simp
                refine hK _ _ ?_; clear hK K
                refine wpAny_ready (rs := [10]) (by kernel_rfl) (by simp) ?_
                refine AllReady.cons rfl (fun K hK => ?_) ?_
                · go_simp
                  refine hK _ _ ?_; clear hK K
                  refine wpAny_done (by kernel_rfl) ?_ _
                  generalize Value.slice (some ⟨g', 0, none⟩) (s.ws.length + 1) cap' = v' at S6 ⊢
                  generalize World.setCell w3 ⟨d, 1, none⟩ v' = w4 at S6 ⊢
                  exact HKEY.out v' w4 S6
                exact AllReady.nil
              exact AllReady.nil
            exact AllReady.nil
          exact AllReady.nil
        exact AllReady.nil
      exact AllReady.nil
    refine AllReady.cons rfl (fun K hK => ?_) ?_
    · refine step_run rfl _ _ (run_load_op 96 (.tmp 7) rfl G 0 rfl r.cells _ (by simpa using HRG.out) Tryd.underlying96 rfl (info_wr _ Hcl.out)) ?_
      simp only [Act.put, List.setIfInBounds_toArray]
      refine hK _ _ ?_; clear hK K
      refine wpAny_ready (rs := [4, 6]) (by kernel_rfl) (by simp) ?_
      refine AllReady.cons rfl (fun K hK => ?_) ?_
      · go_simp
        refine hK _ _ ?_; clear hK K
        refine wpAny_ready (rs := [6]) (by kernel_rfl) (by simp) ?_
        refine AllReady.cons rfl (fun K hK => ?_) ?_
        · refine step_run rfl _ _ (run_build1d_op 52 96 (.tmp 38) rfl r.cells Z rfl Tryd.underlying52 (fun w => by rw [Hcl.out]; exact size_wr w) hzv (by rw [Hcl.out]; omega) (by rw [Hcl.out]; omega) _) ?_
          simp only [Act.put, List.setIfInBounds_toArray]
          refine hK _ _ ?_; clear hK K
          refine wpAny_ready (rs := [7]) (by kernel_rfl) (by simp) ?_
          refine AllReady.cons rfl (fun K hK => ?_) ?_
          · refine step_append_w rfl (.tmp 37) (.tmp 39) rfl N s.ws r v rfl OWN.out w2.heap.size rfl SRC.out Hcl.out (by omega) (by simp; omega) ?_
            intro g' cap' w3 hown3 hgr3 hg3
            have S6 := Lib.hid (six_of HD2.out BEL.out hown3 hgr3 hg3 RO.out)
            obtain ⟨p1, q1⟩ := C3.out w3 hgr3
            clear hown3 hgr3 hg3
            simp only [Act.put]
            refine hK _ _ ?_; clear hK K
            refine wpAny_ready (rs := [8]) (by kernel_rfl) (by simp) ?_
            refine AllReady.cons rfl (fun K hK => ?_) ?_
            · go_simp
              refine hK _ _ ?_; clear hK K
              refine wpAny_ready (rs := [9]) (by kernel_rfl) (by simp) ?_
              refine AllReady.cons rfl (fun K hK => ?_) ?_
              · go_simp
                refine hK _ _ ?_; clear hK K
                refine wpAny_ready (rs := [10]) (by kernel_rfl) (by simp) ?_
                refine AllReady.cons rfl (fun K hK => ?_) ?_
                · go_simp
                  refine hK _ _ ?_; clear hK K
                  refine wpAny_done (by kernel_rfl) ?_ _
                  generalize Value.slice (some ⟨g', 0, none⟩) (s.ws.length + 1) cap' = v' at S6 ⊢
                  generalize World.setCell w3 ⟨d, 1, none⟩ v' = w4 at S6 ⊢
                  exact HKEY.out v' w4 S6
                exact AllReady.nil
              exact AllReady.nil
            exact AllReady.nil
          exact AllReady.nil
        exact AllReady.nil
      refine AllReady.cons rfl (fun K hK => ?_) ?_
      · refine step_run rfl _ _ (run_build1d_op 52 96 (.tmp 38) rfl r.cells Z rfl Tryd.underlying52 (fun w => by rw [Hcl.out]; exact size_wr w) hzv (by rw [Hcl.out]; omega) (by rw [Hcl.out]; omega) _) ?_
        simp only [Act.put]
        refine hK _ _ ?_; clear hK K
        refine wpAny_ready (rs := [4]) (by kernel_rfl) (by simp) ?_
        refine AllReady.cons rfl (fun K hK => ?_) ?_
        · go_simp
          refine hK _ _ ?_; clear hK K
          refine wpAny_ready (rs := [7]) (by kernel_rfl) (by simp) ?_
          refine AllReady.cons rfl (fun K hK => ?_) ?_
          · refine step_append_w rfl (.tmp 37) (.tmp 39) rfl N s.ws r v rfl OWN.out w2.heap.size rfl SRC.out Hcl.out (by omega) (by simp; omega) ?_
            intro g' cap' w3 hown3 hgr3 hg3
            have S6 := Lib.hid (six_of HD2.out BEL.out hown3 hgr3 hg3 RO.out)
            obtain ⟨p1, q1⟩ := C3.out w3 hgr3
            clear hown3 hgr3 hg3
            simp only [Act.put, List.setIfInBounds_toArray]
            refine hK _ _ ?_; clear hK K
            refine wpAny_ready (rs := [8]) (by kernel_rfl) (by simp) ?_
            refine AllReady.cons rfl (fun K hK => ?_) ?_
            · go_simp
              refine hK _ _ ?_; clear hK K
              refine wpAny_ready (rs := [9]) (by kernel_rfl) (by simp) ?_
              refine AllReady.cons rfl (fun K hK => ?_) ?_
              · go_simp
                refine hK _ _ ?_; clear hK K
                refine wpAny_ready (rs := [10]) (by kernel_rfl) (by simp) ?_
                refine AllReady.cons rfl (fun K hK => ?_) ?_
                · go_simp
                  refine hK _ _ ?_; clear hK K
                  refine wpAny_done (by kernel_rfl) ?_ _
                  generalize Value.slice (some ⟨g', 0, none⟩) (s.ws.length + 1) cap' = v' at S6 ⊢
                  generalize World.setCell w3 ⟨d, 1, none⟩ v' = w4 at S6 ⊢
                  exact HKEY.out v' w4 S6
                exact AllReady.nil
              exact AllReady.nil
            exact AllReady.nil
          exact AllReady.nil
        exact AllReady.nil
      exact AllReady.nil
    exact AllReady.nil
  case rest =>
    intro v' w3 S6
    have D3 := S6.out.at'
    have hG3 : w3.heap[G]? = some (.cells r.cells.toArray 96 (0, 0)) := S6.out.kept.heap HG.out (fun hF => by have := (H.out.footN hF).2; omega)
    have HG3 := Lib.hid hG3
    have HD3 := Lib.hid D3
    have hG3lt : G < w3.heap.size := lt_block hG3
    have hd3lt : d < w3.heap.size := D3.lt.1
    clear D3 hG3 HRG BEL OWN SRC C3 c0 c1 c2 c3 f1 c1a HG
    obtain ⟨c0, -⟩ := HD3.out.cell
    dsimp only at c0
    go_wp2_with fail
    refine wp_region_fresh 7 [.calm, .calm, .calm, .calm, .calm, .calm, .calm] (fun _ => .cells #[] 0) (fun _ => .cells #[] 0) (fun _ _ => undef) (by kernel_rfl) (by kernel_rfl) (by kernel_rfl) ?_
    intro R hR
    have hne := hR.nonempty
    simp only [List.take_succ_cons, List.take_zero, List.drop_succ_cons, List.drop_zero, calmL]
    have cm0 : ∀ m : BlR w3 R, m.wr.cell? ⟨d, 0, none⟩ = some (.slice (some ⟨gs, 0, none⟩) s.S.length s.S.length) := fun m => by rw [m.below.cell (by exact hd3lt)]; exact c0
    iterate 6 (go_big_quiet_step (fail))
    refine wpQuiet_load_mid rfl 86 (.tmp 48) rfl G 65 (by first | rfl | (simp [Act.eval]; omega)) (r.after.map B) _ (fun w' ⟨m, hw'⟩ => hw' ▸ range_below m.below (range_after HG3.out H1.out) hG3lt) Tryd.underlying86 rfl (info_sec _ Ha64.out) ?_
    simp only [Act.put, List.setIfInBounds_toArray, List.set_cons_succ, List.set_cons_zero]
    refine wpQuiet_nil ?_
    refine ⟨by simp only [obF], ?_⟩
    intro γ w4 hf4
    clear cm0 hR hne R
    simp only [putF]
    have hb4 := hf4.below
    clear hf4
    have D4 := HD3.out.below hb4
    have HT := Lib.hid (there_sec D4 i hi)
    have HP := Lib.hid (D4.put i hi r.after H2.out)
    have HB4 := Lib.hid hb4
    clear D4 hb4 HG3
    go_wp2_with (refine wpList_store_mid rfl 86 (.tmp 50) (.tmp 49) rfl gs (i * 64) (r.after.map B).toArray rfl rfl (by simpa [Ha64.out] using HT.out) (info_sec _ (by simp [Ha64.out])) (all_oneCell_toArray (done_bytes _)) ?_)
    obtain ⟨D5, K5⟩ := HP.out
    generalize World.setCells w4 gs (i * 64) (r.after.map B) = w5 at *
    refine (burn_any w5 N d gs v' _ D5 hf).mono ?_
    rintro e w6 ⟨rfl, D6, K6⟩
    have HD6 := Lib.hid D6
    have HK6 := Lib.hid K6
    have HK5 := Lib.hid K5
    clear D6 K6 K5 D5
    go_wp2_with fail
    go_ret
    refine ⟨rfl, v', ⟨?_, ?_, ?_⟩⟩
    · have e : s.wrote i b = DSt.burnt { S := s.S.set i r.after, ws := s.ws ++ [r], fuse := s.fuse, gone := s.gone } := by
        unfold DSt.wrote
        rw [Hrd.out, List.getElem?_eq_getElem hi]
        rfl
      rw [e]; exact HD6.out
    · have k1 : KeptF (foot d gs v) w w2 := .of_below HB2.out
      have k2 := k1.trans S6.out.kept fun _ _ h => h
      have k3 : KeptF (foot d gs v) w3 w4 := .of_below HB4.out
      have k5 : KeptF (foot d gs v) w4 w5 := .of_kept1 HK5.out fun _ => .inr (.inl rfl)
      have k6 : KeptF (foot d gs v) w5 w6 := .of_kept1 HK6.out fun _ => .inl rfl
      exact ((k2.trans k3 fun _ _ h => h).trans k5 fun _ _ h => h).trans k6 fun _ _ h => h
    · intro k hk
      rcases S6.out.own k hk with h | h
      · exact .inl h
      · exact .inr (Nat.le_trans HB2.out.size h)
end Go.Proofs.YtlhfdlfbnnfjjaaDoor
namespace Go.Proofs.YtlhfdlfbnnfjjaaDoor
open Go.RowKit

set_option maxRecDepth 100000 in
theorem Both.disked {w w' : World} {N d gs : Nat} {v v' : Value} {s s' : DSt} {b : Nat} {ra : Value} {ps : List Part} {room gen : Nat} {o : Bool} (h : Both w N d gs v s b ra ps room gen o) (hw : DAt w' N d gs v' s') (hk : KeptF (foot d gs v) w w') (ho : ∀ k, v'.ownBlock = some k → v.ownBlock = some k ∨ w.heap.size ≤ k) :
    Both w' N d gs v' s' b ra ps room gen o := by
  have hf : ∀ k, foot d gs v' k → foot d gs v k ∨ w.heap.size ≤ k := fun k hk => by
    rcases hk with hk | hk | hk
    · exact .inl (.inl hk)
    · exact .inl (.inr (.inl hk))
    · exact (ho k hk).imp (fun h => .inr (.inr h)) id
  refine ⟨hw, hk.heap h.blk h.apart, own_same h.row fun g hg => hk.block g (h.row.lt g hg).2 (h.apartR g hg), fun p hp => (h.ins p hp).keptF hk fun hne hf => h.parts p hp hne (.inr (.inr hf)), h.nil, h.lim, h.few, h.rm, h.bN, h.ne, ?_, ?_, ?_⟩
  · intro hf'
    rcases hf b hf' with h1 | h1
    · exact h.apart h1
    · have := lt_block h.blk; omega
  · intro k hk' hf'
    rcases hf k hf' with h1 | h1
    · exact h.apartR k hk' h1
    · have := (h.row.lt k hk').2; omega
  · intro p hp hne hj
    rcases hj with hj | hj | hj
    · exact h.parts p hp hne (.inl hj)
    · exact h.parts p hp hne (.inr (.inl hj))
    · rcases hf _ hj with h1 | h1
      · exact h.parts p hp hne (.inr (.inr h1))
      · have := (h.ins p hp).lt; omega
/-- the bytes of a record's part -/
def secB (n g k : Nat) (l : List UInt8) : List UInt8 := encS (cutH n g k l) (cutB l k)
set_option maxRecDepth 100000 in
theorem length_cutB (l : List UInt8) (k : Nat) : (cutB l k).length ≤ 52 := by rw [cutB, List.length_take]; omega
set_option maxRecDepth 100000 in
theorem length_secB (n g k : Nat) (l : List UInt8) : (secB n g k l).length = 64 := length_encS _ _ (length_cutB l k)
/-- a disk behind so many of a record's writes -/
def wrN (s : DSt) (A n g : Nat) (l : List UInt8) : Nat → DSt
  | 0 => s
  | k + 1 => (wrN s A n g l k).wrote (A + k) (secB n g k l)
set_option maxRecDepth 100000 in
theorem wrote_len (s : DSt) (i : Nat) (x : List UInt8) : (s.wrote i x).S.length = s.S.length ∧ (s.wrote i x).ws.length = s.ws.length + 1 ∧ (s.wrote i x).fuse ≤ max s.fuse 0 := by
  unfold DSt.wrote DSt.burnt
  split <;> simp <;> omega
set_option maxRecDepth 100000 in
theorem wrN_len (s : DSt) (A n g : Nat) (l : List UInt8) (k : Nat) : (wrN s A n g l k).S.length = s.S.length ∧ (wrN s A n g l k).ws.length = s.ws.length + k ∧ (wrN s A n g l k).fuse ≤ max s.fuse 0 := by
  induction k with
  | zero => exact ⟨rfl, rfl, Int.le_max_left _ _⟩
  | succ k ih =>
    obtain ⟨h1, h2, h3⟩ := wrote_len (wrN s A n g l k) (A + k) (secB n g k l)
    refine ⟨h1.trans ih.1, by show (DSt.wrote _ _ _).ws.length = _; omega, ?_⟩
    show (DSt.wrote _ _ _).fuse ≤ _
    omega
set_option maxRecDepth 100000 in
theorem nParts_le (n : Nat) (h : n ≤ 4096) : nParts n ≤ 79 := by unfold nParts; omega
set_option maxRecDepth 100000 in
theorem cutH_ok (n g k : Nat) (l : List UInt8) (hn : n ≤ 8192) (hg : g < 4294967296) (hk : k ≤ 79) (hl : l.length ≤ 4096) : (cutH n g k l).Ok :=
  ⟨by show n + 1 < _; omega, hg, by show k < _; omega, by have := nParts_le _ hl; show nParts l.length < _; omega, by have := length_cutB l k; show (cutB l k).length < _; omega⟩
/-- what write leaves: all is flushed, or the disk is gone -/
inductive Wr (w : World) (N d gs : Nat) (v : Value) (s : DSt) (b : Nat) (ra : Value) (ps : List Part) (room gen : Nat) (o : Bool) (l : List UInt8) (e : Ending) (w' : World) : Prop
  | done (he : e = .returned (.int .i64 0)) (hg : (wrN s (s.S.length - room) ps.length gen l (nParts l.length)).gone = false) (h : Both w' N d gs (.slice none 0 0) { wrN s (s.S.length - room) ps.length gen l (nParts l.length) with ws := [] } b ra ps room gen o)
  | lost (k : Nat) (hk : k ≤ nParts l.length) (v' : Value) (he : e = .returned (.int .i64 5)) (hg : (wrN s (s.S.length - room) ps.length gen l k).gone = true) (h : Both w' N d gs v' (wrN s (s.S.length - room) ps.length gen l k) b ra ps room gen o) (ho : ∀ j, v'.ownBlock = some j → v.ownBlock = some j ∨ w.heap.size ≤ j)
structure WrRel (w : World) (N d gs : Nat) (v : Value) (s : DSt) (b : Nat) (ra : Value) (ps : List Part) (room gen : Nat) (o : Bool) (l : List UInt8) (k : Nat) (v' : Value) (wr : World) : Prop where
  both : Both wr N d gs v' (wrN s (s.S.length - room) ps.length gen l k) b ra ps room gen o
  kept : KeptF (foot d gs v) w wr
  own : ∀ j, v'.ownBlock = some j → v.ownBlock = some j ∨ w.heap.size ≤ j
set_option maxRecDepth 100000 in
set_option maxHeartbeats 2000000 in
theorem bwrite_any (w : World) {N d gs : Nat} {v : Value} {s : DSt} {b : Nat} {ra : Value} {ps : List Part} {room gen : Nat} {o : Bool} (h : Both w N d gs v s b ra ps room gen o) (p : Part) (hp : p.In w) (hpl : p.l.length ≤ 4096) (hpj : p.l ≠ [] → ¬ J b ra d gs v p.g)
    (hroom : room ≤ s.S.length) (hM : nParts p.l.length ≤ room) (hws : s.ws.length ≤ 500) (hfu : s.fuse ≤ 9223372036854775807) (hgen : gen < 4294967296) :
    Calls Tryd.prog 24 #[.pointer (some ⟨b, 0, none⟩), p.val] w fun e w' => Wr w N d gs v s b ra ps room gen o p.l e w' ∧ KeptF (foot d gs v) w w' := by
  have H := Lib.hid h
  have HP := Lib.hid hp
  have HPJ := Lib.hid hpj
  have hfew := h.few
  have hlim : s.S.length ≤ 8192 := h.disk.ok.lim
  have hM79 := nParts_le _ hpl
  have c0 : ∀ m : Bl w, m.wr.cell? ⟨b, 0, none⟩ = some (.pointer (some ⟨d, 0, none⟩)) := fun m => (h.below m.below).cells.1
  have c35 : ∀ m : Bl w, m.wr.cell? ⟨b, 35, none⟩ = some (.int .i64 (room : Int)) := fun m => (h.below m.below).cells.2.2.2.1
  have HSe : Hid (∀ m : Bl w, Calls Tryd.prog 17 #[.pointer (some ⟨d, 0, none⟩)] m.wr fun e w' => e = .returned (.int .i64 (s.S.length : Int)) ∧ m.wr = w') := Lib.hid fun m => sectors_any m.wr N d gs v s (h.below m.below).disk
  have HPa : Hid (∀ W, Calls Tryd.prog 23 #[.int .i64 (p.l.length : Int)] W fun e w' => e = .returned (.int .i64 ((nParts p.l.length : Nat) : Int)) ∧ W = w') := Lib.hid fun W => by
    have := parts_any W (p.l.length : Int) (by omega)
    rwa [partsI_nat] at this
  have R0 : WrRel w N d gs v s b ra ps room gen o p.l 0 v w := ⟨h, .refl _ _, fun _ h => .inl h⟩
  have HR0 := Lib.hid R0
  clear h hp hpj R0
  unfold Part.val
  obtain ⟨S, hS⟩ : ∃ S, s.S.length = S := ⟨_, rfl⟩
  rw [hS] at HSe hroom hlim
  have HSS := Lib.hid hS
  obtain ⟨M, hMM⟩ : ∃ M, nParts p.l.length = M := ⟨_, rfl⟩
  rw [hMM] at HPa hM hM79
  have HMM := Lib.hid hMM
  clear hS hMM
  go_enter Tryd.func24, Tryd.ntmps24
  go_wp2_with fail
  refine wp_region_quiet_tailB 10 (by kernel_rfl) (by kernel_rfl) ?_
  simp only [List.take_succ_cons, List.take_zero, List.drop_succ_cons, List.drop_zero]
  iterate 10 (go_big_quiet_step ((go_at_call 17; with_reducible exact Calls.quiet_b (.mono (HSe.out _) fun _ _ ⟨he, hw⟩ => ⟨he, hw ▸ Below.refl _ _⟩))))
  refine wpQuiet_nil ?_
  intro m
  have R1 : WrRel w N d gs v s b ra ps room gen o p.l 0 v m.wr := ⟨HR0.out.both.below m.below, KeptF.of_below m.below, fun _ h => .inl h⟩
  have HR1 := Lib.hid R1
  clear R1 c0 c35
  generalize m.wr = w1 at *
  clear m
  go_wp2_with fail
  refine (HPa.out _).mono ?_
  rintro e w' ⟨rfl, rfl⟩
  go_wp2_with fail
  obtain ⟨A, hA⟩ : ∃ A, S - room = A := ⟨_, rfl⟩
  have hAI : (S : Int) - (room : Int) = (A : Int) := by omega
  have HAI := Lib.hid hAI
  have HA : Hid (s.S.length - room = A) := Lib.hid (by rw [HSS.out]; exact hA)
  clear hAI
  go_loopw [6, 7, 21] (fun _ _ i wr => ∃ (k : Nat) (v' : Value), k ≤ M ∧ i = .int .i64 k ∧ WrRel w N d gs v s b ra ps room gen o p.l k v' wr) (fun _ _ i _ => M - (intOf i).toNat)
  case atStart => exact ⟨0, v, by omega, rfl, HR1.out⟩
  case round =>
    clear HR1 HR0
    obtain ⟨k, v', hk, rfl, hr⟩ := hrel
    obtain ⟨hSl, hwl, hfl⟩ := wrN_len s A ps.length gen p.l k
    have hr' := hr
    obtain ⟨hbo, hkp, hown⟩ := hr'
    rw [HA.out] at hbo
    obtain ⟨sk, hsk⟩ : ∃ sk, wrN s A ps.length gen p.l k = sk := ⟨_, rfl⟩
    rw [hsk] at hbo hSl hwl hfl
    rw [HSS.out] at hSl
    by_cases hlt : k < M
    · have hd : decide ((k : Int) < (M : Int)) = true := by simp; omega
      have hpin : p.In wr := HP.out.keptF hkp fun hne hf => HPJ.out hne (.inr (.inr hf))
      have hk52 : k * 52 ≤ p.l.length := by
        have := HMM.out
        unfold nParts at this
        omega
      obtain ⟨q, hql, hqg, hqi, hqn, hcut⟩ := cut_any (N := N) (d := d) (gs := gs) (v := v') (s := sk) (b := b) (ra := ra) (ps := ps) (room := room) (gen := gen) (o := o) p hpl k hk52 hpin.cap hpin.bytes.at'
      have hcutW : Hid (∀ W, Below wr.heap.size wr W → Calls Tryd.prog 34 #[.pointer (some ⟨b, 0, none⟩), .slice p.ad p.l.length p.cap, .int .i64 (k : Int)] W fun e w' => e = .returned (.agg (secC (cutH ps.length gen k p.l) q).toArray) ∧ Below W.heap.size W w') := Lib.hid fun W hW => hcut W (hbo.below hW)
      have c0 : ∀ m : Bl wr, m.wr.cell? ⟨b, 0, none⟩ = some (.pointer (some ⟨d, 0, none⟩)) := fun m => (hbo.below m.below).cells.1
      have hok := cutH_ok ps.length gen k p.l (by omega) hgen (by omega) hpl
      have HBy : Hid (∀ W, Below wr.heap.size wr W → Calls Tryd.prog 35 #[.agg (secC (cutH ps.length gen k p.l) q).toArray] W fun e w' => ∃ g o cp, e = .returned (.slice (some ⟨g, o, none⟩) 64 cp) ∧ w'.rangeAt g o ((secB ps.length gen k p.l).map B) ∧ g < w'.heap.size ∧ Below W.heap.size W w') := Lib.hid fun W hW => by
        have := sbytes_any W _ hok q (hqi _ (hpin.below hW)) (by rw [hql]; exact length_cutB _ _)
        rwa [hql] at this
      have HBo := Lib.hid hbo
      have HKp := Lib.hid hkp
      have HOw := Lib.hid hown
      have HSk := Lib.hid hsk
      have hdlt := hbo.disk.lt.1
      obtain ⟨C, hC⟩ : ∃ C, (secC (cutH ps.length gen k p.l) q).toArray = C := ⟨_, rfl⟩
      rw [hC] at hcutW HBy
      clear hr hbo hkp hown hpin hql hqg hqi hqn hcut hok hC hsk
      go_wp2_with fail
      refine wp_region_held (S := fun W => W.cell? ⟨b, 0, none⟩ = some (.pointer (some ⟨d, 0, none⟩))) (by kernel_rfl) ?_
      change wpAnyH _ _ _ _ _ _ _ _ (World.drew _)
      have hS0 : wr.drew.cell? ⟨b, 0, none⟩ = some (.pointer (some ⟨d, 0, none⟩)) := (HBo.out.below ((Below.refl wr.heap.size wr).drew)).cells.1
      have HD0 : Hid (Below wr.heap.size wr wr.drew) := Lib.hid (Below.refl _ _).drew
      clear c0
      generalize wr.drew = W2 at *
      have hCutW := Lib.hid (hcutW.out W2 HD0.out)
      have hwrap : IntKind.i64.wrap ((S : Int) - (room : Int) + (k : Int)) = (S : Int) - (room : Int) + (k : Int) := IntWalk.i64_in _ (by omega)
      refine held_take (i := 0) (some 24) rfl (by rfl) (by kernel_rfl) (by kernel_rfl) (by kernel_rfl) (.pointer (some ⟨b, 0, none⟩)) (fun _ _ _ h => h) (by rfl) (fun w0 hS => by clear hS; go_simp; try with_reducible rfl) hS0 ?_
      simp only [Act.put, List.setIfInBounds_toArray, List.set_cons_succ, List.set_cons_zero]
      refine held_take (i := 1) (some 25) rfl (by rfl) (by kernel_rfl) (by kernel_rfl) (by kernel_rfl) (.pointer (some ⟨b, 0, none⟩)) (fun _ _ _ h => h) (by rfl) (fun w0 hS => by clear hS; go_simp; try with_reducible rfl) hS0 ?_
      simp only [Act.put, List.setIfInBounds_toArray, List.set_cons_succ, List.set_cons_zero]
      refine held_take (i := 2) (some 26) rfl (by rfl) (by kernel_rfl) (by kernel_rfl) (by kernel_rfl) (.pointer (some ⟨b, 0, none⟩)) (fun _ _ _ h => h) (by rfl) (fun w0 hS => by clear hS; go_simp; try with_reducible rfl) hS0 ?_
      simp only [Act.put, List.setIfInBounds_toArray, List.set_cons_succ, List.set_cons_zero]
      refine held_take (i := 3) (some 27) rfl (by rfl) (by kernel_rfl) (by kernel_rfl) (by kernel_rfl) (.pointer (some ⟨d, 0, none⟩)) (fun _ _ _ h => h) (by rfl) (fun w0 hS => by go_simp; try with_reducible rfl) hS0 ?_
      simp only [Act.put, List.setIfInBounds_toArray, List.set_cons_succ, List.set_cons_zero]
      refine held_take (i := 4) (some 28) rfl (by rfl) (by kernel_rfl) (by kernel_rfl) (by kernel_rfl) (.int .i64 ((S : Int) - (room : Int))) (fun _ _ _ h => h) (by rfl) (fun w0 hS => by clear hS; go_simp; try with_reducible rfl) hS0 ?_
      simp only [Act.put, List.setIfInBounds_toArray, List.set_cons_succ, List.set_cons_zero]
      refine held_take (i := 5) (some 29) rfl (by rfl) (by kernel_rfl) (by kernel_rfl) (by kernel_rfl) (.int .i64 (k : Int)) (fun _ _ _ h => h) (by rfl) (fun w0 hS => by clear hS; go_simp; try with_reducible rfl) hS0 ?_
      simp only [Act.put, List.setIfInBounds_toArray, List.set_cons_succ, List.set_cons_zero]
      refine held_take (i := 6) (some 30) rfl (by rfl) (by kernel_rfl) (by kernel_rfl) (by kernel_rfl) (.int .i64 ((S : Int) - (room : Int) + (k : Int))) (fun _ _ _ h => h) (by rfl) (fun w0 hS => by clear hS; go_simp; try with_reducible rfl) hS0 ?_
      simp only [Act.put, List.setIfInBounds_toArray, List.set_cons_succ, List.set_cons_zero]
      refine held_take (i := 7) (some 31) rfl (by rfl) (by kernel_rfl) (by kernel_rfl) (by kernel_rfl) (.pointer (some ⟨b, 0, none⟩)) (fun _ _ _ h => h) (by rfl) (fun w0 hS => by clear hS; go_simp; try with_reducible rfl) hS0 ?_
      simp only [Act.put, List.setIfInBounds_toArray, List.set_cons_succ, List.set_cons_zero]
      refine held_take (i := 8) (some 32) rfl (by rfl) (by kernel_rfl) (by kernel_rfl) (by kernel_rfl) (.slice p.ad p.l.length p.cap) (fun _ _ _ h => h) (by rfl) (fun w0 hS => by clear hS; go_simp; try with_reducible rfl) hS0 ?_
      simp only [Act.put, List.setIfInBounds_toArray, List.set_cons_succ, List.set_cons_zero]
      refine held_take (i := 9) (some 33) rfl (by rfl) (by kernel_rfl) (by kernel_rfl) (by kernel_rfl) (.int .i64 (k : Int)) (fun _ _ _ h => h) (by rfl) (fun w0 hS => by clear hS; go_simp; try with_reducible rfl) hS0 ?_
      simp only [Act.put, List.setIfInBounds_toArray, List.set_cons_succ, List.set_cons_zero]
      refine held_call (i := 10) (some 34) rfl (by rfl) (by kernel_rfl) (by rfl) 34 #[.pointer (some ⟨b, 0, none⟩), .slice p.ad p.l.length p.cap, .int .i64 (k : Int)] (by go_simp; try with_reducible rfl) (hCutW.out.mono ?_)
      rintro e w2 ⟨rfl, hb2⟩
      have hb02 := HD0.out.trans (hb2.mono HD0.out.size)
      have hS2 : w2.cell? ⟨b, 0, none⟩ = some (.pointer (some ⟨d, 0, none⟩)) := (HBo.out.below hb02).cells.1
      refine ⟨_, rfl, hS2, ?_⟩
      simp only [Act.put, List.setIfInBounds_toArray, List.set_cons_succ, List.set_cons_zero]
      refine held_call (i := 11) (some 35) rfl (by rfl) (by kernel_rfl) (by rfl) 35 #[.agg C] (by go_simp; try with_reducible rfl) ((HBy.out w2 hb02).mono ?_)
      rintro e w3 ⟨g, oo, cp, rfl, hrg, hglt, hb3⟩
      have hb03 := hb02.trans (hb3.mono hb02.size)
      have hbo3 := HBo.out.below hb03
      have hS3 := hbo3.cells.1
      have HB03 := Lib.hid hb03
      have HBo3 := Lib.hid hbo3
      have HRg := Lib.hid hrg
      refine ⟨_, rfl, hS3, ?_⟩
      simp only [Act.put, List.setIfInBounds_toArray, List.set_cons_succ, List.set_cons_zero]
      clear hb03 hbo3 hrg hb3 HBo HBy hb2 hb02 hS2 hS0 hCutW hcutW HD0
      cases hgone : sk.gone with
      | true =>
        have HWr := Lib.hid (write_gone w3 N d gs v' sk HBo3.out.disk hgone ((S : Int) - (room : Int) + (k : Int)) (.slice (some ⟨g, oo, none⟩) 64 cp))
        have HGo := Lib.hid hgone
        clear hgone
        refine held_call (i := 12) (some 36) rfl (by rfl) (by kernel_rfl) (by rfl) 33 #[.pointer (some ⟨d, 0, none⟩), .int .i64 ((S : Int) - (room : Int) + (k : Int)), .slice (some ⟨g, oo, none⟩) 64 cp] (by go_simp; try with_reducible rfl) (HWr.out.mono ?_)
        rintro e w4 ⟨rfl, rfl⟩
        refine ⟨_, rfl, hS3, ?_⟩
        simp only [Act.put, List.setIfInBounds_toArray, List.set_cons_succ, List.set_cons_zero]
        refine held_run (i := 13) (some 7) rfl (by rfl) (by kernel_rfl) (by rfl) (.int .i64 5) w3 (by go_simp; try with_reducible rfl) hS3 ?_
        simp only [Act.put, List.setIfInBounds_toArray, List.set_cons_succ, List.set_cons_zero]
        refine wpAnyH_done (by kernel_rfl) ?_ _
        clear HWr hS3
        go_wp2_with fail
        go_ret
        refine ⟨.lost k (by rw [HMM.out]; exact hk) v' rfl (by rw [HA.out, HSk.out]; exact HGo.out) (by rw [HA.out, HSk.out]; exact HBo3.out) HOw.out, HKp.out.trans (KeptF.of_below HB03.out) fun _ _ h => h⟩
      | false =>
        have hWr := dwrite_any w3 N d gs v' sk HBo3.out.disk hgone (A + k) (by omega) (secB ps.length gen k p.l) (length_secB _ _ _ _) g oo cp HRg.out hglt (by omega) (by omega)
        rw [show ((A + k : Nat) : Int) = (S : Int) - (room : Int) + (k : Int) by have := HAI.out; omega] at hWr
        have HWr := Lib.hid hWr
        clear hgone hWr
        refine held_call (i := 12) (some 36) rfl (by rfl) (by kernel_rfl) (by rfl) 33 #[.pointer (some ⟨d, 0, none⟩), .int .i64 ((S : Int) - (room : Int) + (k : Int)), .slice (some ⟨g, oo, none⟩) 64 cp] (by go_simp; try with_reducible rfl) (HWr.out.mono ?_)
        rintro e w4 ⟨rfl, v'', hw4⟩
        have hS4 := (HBo3.out.disked hw4.at' hw4.kept hw4.own).cells.1
        refine ⟨_, rfl, hS4, ?_⟩
        simp only [Act.put, List.setIfInBounds_toArray, List.set_cons_succ, List.set_cons_zero]
        refine held_run (i := 13) (some 7) rfl (by rfl) (by kernel_rfl) (by rfl) (.int .i64 0) w4 (by go_simp; try with_reducible rfl) hS4 ?_
        simp only [Act.put, List.setIfInBounds_toArray, List.set_cons_succ, List.set_cons_zero]
        refine wpAnyH_done (by kernel_rfl) ?_ _
        clear hS4 hS3
        have hown4 : ∀ j, v''.ownBlock = some j → v.ownBlock = some j ∨ w.heap.size ≤ j := fun j hj => by
          rcases hw4.own j hj with h1 | h1
          · exact HOw.out j h1
          · have := HKp.out.size; have := HB03.out.size; omega
        have hk4 : KeptF (foot d gs v) w w4 := (HKp.out.trans (KeptF.of_below HB03.out) (fun _ _ h => h)).trans hw4.kept fun i hi hf => by
          rcases hf with hf | hf | hf
          · exact .inl hf
          · exact .inr (.inl hf)
          · rcases HOw.out i hf with h1 | h1
            · exact .inr (.inr h1)
            · omega
        have R4 : WrRel w N d gs v s b ra ps room gen o p.l (k + 1) v'' w4 := ⟨by
          have h1 := HBo3.out.disked hw4.at' hw4.kept hw4.own
          rw [HA.out]
          show Both w4 N d gs v'' ((wrN s A ps.length gen p.l k).wrote (A + k) (secB ps.length gen k p.l)) b ra ps room gen o
          rw [HSk.out]
          exact h1, hk4, hown4⟩
        have HR4 := Lib.hid R4
        clear R4 hk4 hown4 hw4 HWr
        go_wp2_with fail
        go_roundw
        case rel => exact ⟨k + 1, v'', by omega, by go_num, HR4.out⟩
        case measure => simp [intOf]; omega
    · have hd : decide ((k : Int) < (M : Int)) = false := by simp; omega
      obtain rfl : k = M := by omega
      have c0 := hbo.cells.1
      have HBo := Lib.hid hbo
      have HKp := Lib.hid hkp
      have HOw := Lib.hid hown
      have HSk := Lib.hid hsk
      clear hr hbo hkp hown hsk
      cases hgone : sk.gone with
      | true =>
        have HFl := Lib.hid (flush_gone wr N d gs v' sk HBo.out.disk hgone)
        have HGo := Lib.hid hgone
        clear hgone
        go_wp2_with fail
        refine HFl.out.mono ?_
        rintro e w4 ⟨rfl, rfl⟩
        clear HFl
        go_wp2_with fail
        go_ret
        exact ⟨.lost k (by rw [HMM.out]; exact Nat.le_refl _) v' rfl (by rw [HA.out, HSk.out]; exact HGo.out) (by rw [HA.out, HSk.out]; exact HBo.out) HOw.out, HKp.out⟩
      | false =>
        have HFl := Lib.hid (flush_any wr N d gs v' sk HBo.out.disk hgone)
        have HGo := Lib.hid hgone
        clear hgone
        go_wp2_with fail
        refine HFl.out.mono ?_
        rintro e w4 ⟨rfl, hd4, hk4⟩
        have hkf : KeptF (foot d gs v') wr w4 := KeptF.of_kept1 hk4 fun _ => .inl rfl
        have HB4 := Lib.hid (HBo.out.disked hd4 hkf (fun j hj => by cases hj))
        have HK4 : Hid (KeptF (foot d gs v) w w4) := Lib.hid (HKp.out.trans (KeptF.of_kept1 (F := foot d gs v) hk4 fun _ => .inl rfl) fun _ _ h => h)
        clear hd4 hk4 hkf HFl
        go_wp2_with fail
        go_ret
        exact ⟨.done rfl (by rw [HA.out, HMM.out, HSk.out]; exact HGo.out) (by rw [HA.out, HMM.out, HSk.out]; exact HB4.out), HK4.out⟩
end Go.Proofs.YtlhfdlfbnnfjjaaDoor
namespace Go.Proofs.YtlhfdlfbnnfjjaaDoor
open Go.RowKit

set_option maxRecDepth 100000 in
theorem Both.over {w w' : World} {N d gs : Nat} {v : Value} {s : DSt} {b : Nat} {ra : Value} {ps : List Part} {room gen : Nat} {o o' : Bool} (h : Both w N d gs v s b ra ps room gen o) (hk : Kept1 b w w') (hb : w'.heap[b]? = some (.cells (bookC d ra (folded z32 ps) (ps.length : Int) room gen o').toArray 60 (0, 0))) :
    Both w' N d gs v s b ra ps room gen o' := by
  have hkf : KeptF (fun k => k = b) w w' := KeptF.of_kept1 hk fun _ => rfl
  refine ⟨h.disk.kept hkf fun k hf e => h.apart (e ▸ hf), hb, own_same h.row fun g hg => hk.block g (h.row.lt g hg).2 (fun e => h.ne (e ▸ hg)), fun p hp => (h.ins p hp).keptF hkf fun hne e => h.parts p hp hne (.inl e), h.nil, h.lim, h.few, h.rm, h.bN, h.ne, h.apart, h.apartR, h.parts⟩
set_option maxRecDepth 100000 in
/-- what Append answers and leaves, as plain numbers and lists -/
inductive AppP (s : DSt) (rs : List (List UInt8)) (room gen : Nat) (o : Bool) (l : List UInt8) : Int → DSt → List (List UInt8) → Nat → Bool → Prop
  | over (ho : o = true) : AppP s rs room gen o l 5 s rs room o
  | long (ho : o = false) (hl : 4096 < l.length) : AppP s rs room gen o l 3 s rs room o
  | full (ho : o = false) (hl : l.length ≤ 4096) (hr : room < nParts l.length) : AppP s rs room gen o l 4 s rs room o
  | done (ho : o = false) (hl : l.length ≤ 4096) (hr : nParts l.length ≤ room) (hg : (wrN s (s.S.length - room) rs.length gen l (nParts l.length)).gone = false) :
      AppP s rs room gen o l 0 { wrN s (s.S.length - room) rs.length gen l (nParts l.length) with ws := [] } (rs ++ [l]) (room - nParts l.length) false
  | lost (ho : o = false) (hl : l.length ≤ 4096) (hr : nParts l.length ≤ room) (k : Nat) (hk : k ≤ nParts l.length) (hg : (wrN s (s.S.length - room) rs.length gen l k).gone = true) : AppP s rs room gen o l 5 (wrN s (s.S.length - room) rs.length gen l k) rs room true
theorem len_txs (ps : List Part) : (txs ps).length = ps.length := by simp [txs]
set_option maxRecDepth 100000 in
set_option maxHeartbeats 2000000 in
theorem append_any (w : World) {N d gs : Nat} {v : Value} {s : DSt} {b : Nat} {ra : Value} {ps : List Part} {room gen : Nat} {o : Bool} (h : Both w N d gs v s b ra ps room gen o) (ht : Tab w) (hN : 0 < N) (p : Part) (hp : p.In w) (hpl : p.l.length ≤ 5000) (hpj : p.l ≠ [] → ¬ J b ra d gs v p.g)
    (hroom : room ≤ s.S.length) (hws : s.ws.length ≤ 500) (hfu : s.fuse ≤ 9223372036854775807) (hgen : gen < 4294967296) (hfew : ps.length ≤ 8000) :
    Calls Tryd.prog 9 #[.pointer (some ⟨b, 0, none⟩), p.val] w fun e w' => ∃ c v' s' ra' ps' room' o', e = .returned (.int .i64 c) ∧ AppP s (txs ps) room gen o p.l c s' (txs ps') room' o' ∧ Both w' N d gs v' s' b ra' ps' room' gen o' ∧
      KeptF (J b ra d gs v) w w' ∧ (∀ j, J b ra' d gs v' j → J b ra d gs v j ∨ w.heap.size ≤ j) ∧ ∀ x ∈ ps', x.l ≠ [] → x ∈ ps ∨ w.heap.size ≤ x.g := by
  have H := Lib.hid h
  have c35 : ∀ m : Bl w, m.wr.cell? ⟨b, 35, none⟩ = some (.int .i64 (room : Int)) := fun m => (h.below m.below).cells.2.2.2.1
  have c37 := h.cells.2.2.2.2.2
  have hrm := h.rm
  have HP := Lib.hid hp
  have HPJ := Lib.hid hpj
  have HT := Lib.hid ht
  have HPa : Hid (∀ W, Calls Tryd.prog 23 #[.int .i64 (p.l.length : Int)] W fun e w' => e = .returned (.int .i64 ((nParts p.l.length : Nat) : Int)) ∧ W = w') := Lib.hid fun W => by
    have := parts_any W (p.l.length : Int) (by omega)
    rwa [partsI_nat] at this
  clear hp hpj ht
  unfold Part.val
  cases o with
  | true =>
    clear c35
    go_enter Tryd.func9, Tryd.ntmps9
    go_wp2_with fail
    go_ret
    exact ⟨5, v, s, ra, ps, room, true, rfl, .over rfl, H.out, .refl _ _, (fun _ h => .inl h), fun _ h _ => .inl h⟩
  | false =>
    by_cases hl : 4096 < p.l.length
    · have hd : decide ((4096 : Int) < (p.l.length : Int)) = true := by simp; omega
      clear c35
      go_enter Tryd.func9, Tryd.ntmps9
      go_wp2_with fail
      go_ret
      exact ⟨3, v, s, ra, ps, room, false, rfl, .long rfl hl, H.out, .refl _ _, (fun _ h => .inl h), fun _ h _ => .inl h⟩
    · have hd : decide ((4096 : Int) < (p.l.length : Int)) = false := by simp; omega
      have hM79 := nParts_le _ (show p.l.length ≤ 4096 by omega)
      obtain ⟨M, hMM⟩ : ∃ M, nParts p.l.length = M := ⟨_, rfl⟩
      rw [hMM] at HPa hM79
      have HMM := Lib.hid hMM
      clear hMM h
      go_enter Tryd.func9, Tryd.ntmps9
      go_wp2_with fail
      refine wp_region_quiet_tailB 8 (by kernel_rfl) (by kernel_rfl) ?_
      simp only [List.take_succ_cons, List.take_zero, List.drop_succ_cons, List.drop_zero]
      iterate 8 (go_big_quiet_step ((go_at_call 23; with_reducible exact Calls.quiet_b (.mono (HPa.out _) fun _ _ ⟨he, hw⟩ => ⟨he, hw ▸ Below.refl _ _⟩))))
      refine wpQuiet_nil ?_
      intro m
      have HBm := Lib.hid m.below
      clear c35 c37
      generalize m.wr = w1 at *
      clear m
      by_cases hfull : room < M
      · have hd2 : decide ((room : Int) < (M : Int)) = true := by simp; omega
        go_wp2_with fail
        go_ret
        exact ⟨4, v, s, ra, ps, room, false, rfl, .full rfl (by omega) (by rw [HMM.out]; exact hfull), H.out.below HBm.out, .of_below HBm.out, (fun _ h => .inl h), fun _ h _ => .inl h⟩
      · have hd2 : decide ((room : Int) < (M : Int)) = false := by simp; omega
        have HWr := Lib.hid (bwrite_any w1 (H.out.below HBm.out) p (HP.out.below HBm.out) (by omega) HPJ.out hroom (by rw [HMM.out]; omega) hws hfu hgen)
        unfold Part.val at HWr
        go_wp2_with fail
        refine HWr.out.mono ?_
        rintro e w2 ⟨hpost, hk2⟩
        have HK2 := Lib.hid hk2
        clear hk2 HWr
        cases hpost with
        | lost k hk v' he hg hbo hown =>
          subst he
          have f37 := frozen_of_row w2 b 37 _ _ hbo.blk
          have c37 := hbo.cells.2.2.2.2.2
          have hb37 := cell_set_kept hbo.blk 37 (.bool true)
          rw [bk37_set _ _ _ (lenF ps)] at hb37
          have hk37 : Kept1 b w2 (w2.setCell ⟨b, 37, none⟩ (.bool true)) := (Kept1.refl _ _).setCell ⟨b, 37, none⟩ (Or.inl rfl) _
          have HB3 := Lib.hid (hbo.over hk37 hb37)
          have HK3 : Hid (KeptF (J b ra d gs v) w (w2.setCell ⟨b, 37, none⟩ (.bool true))) := Lib.hid (((KeptF.of_below HBm.out).trans HK2.out fun i _ hf => (.inr (.inr hf))).trans (KeptF.of_kept1 (F := J b ra d gs v) hk37 fun _ => .inl rfl) fun _ _ h => h)
          have HG := Lib.hid hg
          have HKk := Lib.hid hk
          have HOw := Lib.hid hown
          clear hbo hb37 hk37 hg hk hown
          go_wp2_with fail
          go_ret
          refine ⟨5, v', _, ra, ps, room, true, rfl, .lost rfl (by omega) (by rw [HMM.out]; omega) k HKk.out (by rw [len_txs]; exact HG.out), by rw [len_txs]; exact HB3.out, HK3.out, fun j hj => ?_, fun _ h _ => .inl h⟩
          have hsz := HBm.out.size
          rcases hj with hj | hj | hj | hj | hj
          · exact .inl (.inl hj)
          · exact .inl (.inr (.inl hj))
          · exact .inl (.inr (.inr (.inl hj)))
          · exact .inl (.inr (.inr (.inr (.inl hj))))
          · rcases HOw.out j hj with h1 | h1
            · exact .inl (.inr (.inr (.inr (.inr h1))))
            · exact .inr (by omega)
        | done he hg hbo =>
          subst he
          have hp2 : p.In w2 := (HP.out.below HBm.out).keptF HK2.out fun hne hf => HPJ.out hne (.inr (.inr hf))
          have HCl := Lib.hid (clone_any w2 p hp2 (by omega))
          have HG := Lib.hid hg
          have HBo := Lib.hid hbo
          clear hg hbo hp2
          go_wp2_with fail
          refine HCl.out.mono ?_
          rintro e w3 ⟨q, rfl, hql, hqi, hqn, hqg, hb3⟩
          have hbo3 := HBo.out.below hb3
          have hqj : q.l ≠ [] → ¬ J b ra d gs (.slice none 0 0) q.g := fun hne hj => by
            have h1 := (HBo.out.jlt hj).2
            have h2 := hqg hne
            omega
          have hTN : ∀ k, J b ra d gs v k → k ≠ 0 := fun k hj e => by have := (H.out.jlt hj).1; omega
          have hk02 : KeptF (J b ra d gs v) w w2 := (KeptF.of_below HBm.out).trans HK2.out fun i _ hf => (.inr (.inr hf))
          have hk03 : KeptF (J b ra d gs v) w w3 := hk02.trans (KeptF.of_below hb3) fun _ _ h => h
          have HAdd := Lib.hid (add_any w3 hbo3 (tab_kept HT.out hk03 fun hj => hTN _ hj rfl) hN q hqi hqn (by rw [hql]; omega) hqj M (by omega) (by omega))
          unfold Part.val at HAdd
          have HQL := Lib.hid hql
          have HQG : Hid (q.l ≠ [] → w.heap.size ≤ q.g) := Lib.hid fun hne => by have := hqg hne; have := HK2.out.size; have := HBm.out.size; omega
          have HK03 := Lib.hid hk03
          have hs3 : w2.heap.size ≤ w3.heap.size := hb3.size
          clear hbo3 hqj hqi hqn hqg hb3 hql hk02 hk03 HCl
          go_wp2_with fail
          refine (HPa.out _).mono ?_
          rintro e w' ⟨rfl, rfl⟩
          go_wp2_with fail
          refine HAdd.out.mono ?_
          rintro e w4 ⟨rfl, ra', hbo4, hk4, hown4⟩
          have HB4 := Lib.hid hbo4
          have HK4 : Hid (KeptF (J b ra d gs v) w w4) := Lib.hid (HK03.out.trans hk4 fun i _ hf => hf.elim .inl fun h => .inr (.inl h))
          have HO4 := Lib.hid hown4
          have hsz4 := HK03.out.size
          clear hbo4 hk4 hown4 HAdd
          go_wp2_with fail
          go_ret
          refine ⟨0, .slice none 0 0, _, ra', ps ++ [q], room - M, false, rfl, ?_, HB4.out, HK4.out, fun j hj => ?_, fun x hx hne => ?_⟩
          · have h1 : txs (ps ++ [q]) = txs ps ++ [p.l] := by unfold txs; rw [List.map_append, List.map_singleton, HQL.out]
            rw [h1, ← HMM.out]
            have h2 := AppP.done (s := s) (rs := txs ps) (room := room) (gen := gen) (o := false) (l := p.l) rfl (by omega) (by rw [HMM.out]; omega) (by rw [len_txs]; exact HG.out)
            rw [len_txs] at h2
            exact h2
          · rcases hj with hj | hj | hj | hj | hj
            · exact .inl (.inl hj)
            · rcases HO4.out j hj with h1 | h1
              · exact .inl (.inr (.inl h1))
              · exact .inr (by omega)
            · exact .inl (.inr (.inr (.inl hj)))
            · exact .inl (.inr (.inr (.inr (.inl hj))))
            · cases hj
          · rcases List.mem_append.1 hx with hx | hx
            · exact .inl hx
            · obtain rfl := List.mem_singleton.1 hx
              exact .inr (HQG.out hne)
end Go.Proofs.YtlhfdlfbnnfjjaaDoor
