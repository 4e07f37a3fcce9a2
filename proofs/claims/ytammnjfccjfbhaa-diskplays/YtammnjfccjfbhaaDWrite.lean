/- Write. -/
import Derived.Test.YtammnjfccjfbhaaDApp
import Derived.BigRegion
namespace Go.Proofs.Ytammnjfccjfbhaa
open Go.RowKit

/-- the state behind a write that is done -/
def DSt.wrote (s : DSt) (i : Nat) (b : List UInt8) : DSt := ({ s with S := s.S.set i b, ws := s.ws ++ [⟨i, s.S[i]?.getD [], b⟩] } : DSt).burnt
/-- what a write that is done leaves -/
structure Wrote (w : World) (N d gs : Nat) (v : Value) (s : DSt) (v' : Value) (w' : World) : Prop where
  at' : DAt w' N d gs v' s
  kept : KeptF (foot d gs v) w w'
  own : ∀ k, v'.ownBlock = some k → v.ownBlock = some k ∨ w.heap.size ≤ k

theorem write_gone (w : World) (N d gs : Nat) (v : Value) (s : DSt) (h : DAt w N d gs v s) (hg : s.gone = true) (i : Int) (b : Value) :
    Calls Try.prog 12 #[.pointer (some ⟨d, 0, none⟩), .int .i64 i, b] w fun e w' => e = .returned (.int .i64 5) ∧ w = w' := by
  obtain ⟨c0, c1, c2, c3⟩ := h.cell
  rw [hg] at c3
  clear h c0 c1 c2 hg
  go_enter Try.func12, Try.ntmps12
  go_wp2_with fail
  go_ret
  exact ⟨rfl, rfl⟩
theorem write_no (w : World) (N d gs : Nat) (v : Value) (s : DSt) (h : DAt w N d gs v s) (hg : s.gone = false) (i : Int) (hi : ¬ (0 ≤ i ∧ i < s.S.length)) (b : Value) :
    Calls Try.prog 12 #[.pointer (some ⟨d, 0, none⟩), .int .i64 i, b] w fun e w' => e = .returned (.int .i64 1) ∧ w = w' := by
  obtain ⟨c0, c1, c2, c3⟩ := h.cell
  rw [hg] at c3
  have H := Lib.hid h
  have Hi := Lib.hid hi
  clear h c0 c1 c2 hg hi
  go_enter Try.func12, Try.ntmps12
  go_wp2_with fail
  refine (has_no w N d gs v s H.out i Hi.out).mono ?_
  rintro e w' ⟨rfl, rfl⟩
  go_wp2_with fail
  go_ret
  exact ⟨rfl, rfl⟩
theorem write_len (w : World) (N d gs : Nat) (v : Value) (s : DSt) (h : DAt w N d gs v s) (hg : s.gone = false) (i : Nat) (hi : i < s.S.length) (ad : Option Addr) (n cap : Nat) (hn : n ≠ 64) :
    Calls Try.prog 12 #[.pointer (some ⟨d, 0, none⟩), .int .i64 (i : Int), .slice ad n cap] w fun e w' => e = .returned (.int .i64 1) ∧ w = w' := by
  obtain ⟨c0, c1, c2, c3⟩ := h.cell
  rw [hg] at c3
  have H := Lib.hid h
  have h1 : ((n : Int) != 64) = true := by simp; omega
  have h2 : ((n : Int) == 64) = false := by simp; omega
  have h3 : (n != 64) = true := by simp; omega
  have h4 : (n == 64) = false := by simp; omega
  clear h c0 c1 c2 hg
  go_enter Try.func12, Try.ntmps12
  go_wp2_with fail
  refine (has_yes w N d gs v s H.out i hi).mono ?_
  rintro e w' ⟨rfl, rfl⟩
  go_wp2_with fail
  go_ret
  exact ⟨rfl, rfl⟩

theorem run_array_op {o : Oper} {a : Act} (x : Operand) (ho : o.op = .sliceToArrayPointer 64 x) (ad : Option Addr) (cap : Nat) (hx : a.eval x = .slice ad 64 cap) (w : World) : (execOp a.eval o).run Try.prog w = .ok (.value (.pointer ad)) w := by
  unfold execOp
  simp [ho, hx, Instr.arrayAt, run_underlying Try.underlying64]
/-- behind the append, and the store of the row -/
structure Six (w : World) (N d gs : Nat) (v : Value) (s : DSt) (v' : Value) (w' : World) : Prop where
  at' : DAt w' N d gs v' s
  kept : KeptF (foot d gs v) w w'
  own : ∀ k, v'.ownBlock = some k → v.ownBlock = some k ∨ w.heap.size ≤ k
theorem grown_d {w2 w2' w3 : World} {N d gs : Nat} {v : Value} {s : DSt} (_ : DAt w2 N d gs v s) (hb : Below w2.heap.size w2 w2') (hgr : w2'.grownBy w3 v.ownBlock) (k : Nat) (hk : k < w2.heap.size) (hv : v.ownBlock ≠ some k) : w3.heap[k]? = w2.heap[k]? :=
  (hgr.block k (by have := hb.size; omega) (fun e => hv e.symm)).trans (hb.block k hk)
theorem six_of {w2 w2' w3 : World} {N d gs g' cap' : Nat} {v : Value} {s : DSt} {r : WrR} (D : DAt w2 N d gs v s) (hb : Below w2.heap.size w2 w2')
    (hown : w3.ownsRow N 66 129 (.slice (some ⟨g', 0, none⟩) (s.ws.length + 1) cap') (s.ws.length + 1) (cellsW (s.ws ++ [r]))) (hgr : w2'.grownBy w3 v.ownBlock) (hg' : v.ownBlock = some g' ∨ g' = w2'.heap.size)
    (hr : r.place < s.S.length ∧ r.before.length = 64 ∧ r.after.length = 64) :
    Six w2 N d gs v { s with ws := s.ws ++ [r] } (.slice (some ⟨g', 0, none⟩) (s.ws.length + 1) cap') (w3.setCell ⟨d, 1, none⟩ (.slice (some ⟨g', 0, none⟩) (s.ws.length + 1) cap')) := by
  have hsz := hb.size
  have hnd : g' ≠ d := fun e => by
    subst e
    rcases hg' with h | h
    · exact D.nd h
    · have := D.lt.1; omega
  have hng : g' ≠ gs := fun e => by
    subst e
    rcases hg' with h | h
    · exact D.ng h
    · have := D.lt.2; omega
  have hbd := (grown_d D hb hgr d D.lt.1 D.nd).trans D.blk
  have hbg := (grown_d D hb hgr gs D.lt.2 D.ng).trans D.sec
  have oth : ∀ k, k ≠ d → (w3.setCell ⟨d, 1, none⟩ (.slice (some ⟨g', 0, none⟩) (s.ws.length + 1) cap')).heap[k]? = w3.heap[k]? := fun k hk => Below.heap_setCell _ _ _ _ (by exact hk)
  refine ⟨⟨heap_set hbd 1 _, (oth gs D.ne).trans hbg, ?_, ⟨D.ok.len, D.ok.lim, fun x hx => ?_⟩, D.ne, (fun e => hnd (by injection e)), (fun e => hng (by injection e)), D.dN, D.gN⟩, ?_, fun k hk => ?_⟩
  · rw [List.length_append]
    exact own_same hown fun g hg => by injection hg with hg; subst hg; exact oth _ hnd
  · rcases List.mem_append.1 hx with hx | hx
    · exact D.ok.wok x hx
    · rw [List.mem_singleton.1 hx]; exact hr
  · have k1 : KeptF (foot d gs v) w2 w2' := .of_below hb
    have k2 : KeptF (foot d gs v) w2' w3 := .of_grown hgr fun b e => .inr (.inr e)
    have k3 : KeptF (foot d gs v) w3 (w3.setCell ⟨d, 1, none⟩ (.slice (some ⟨g', 0, none⟩) (s.ws.length + 1) cap')) := .of_kept1 ((Kept1.refl d w3).setCell _ (.inl rfl) _) (fun _ => .inl rfl)
    exact (k1.trans k2 fun _ _ h => h).trans k3 fun _ _ h => h
  · injection hk with hk
    subst hk
    rcases hg' with h | h
    · exact .inl h
    · exact .inr (by show w2.heap.size ≤ g'; omega)
/-- a sector is written -/
theorem DAt.put {w : World} {N d gs : Nat} {v : Value} {s : DSt} (h : DAt w N d gs v s) (i : Nat) (hi : i < s.S.length) (b : List UInt8) (hb : b.length = 64) :
    DAt (w.setCells gs (i * 64) (b.map B)) N d gs v { s with S := s.S.set i b } ∧ Kept1 gs w (w.setCells gs (i * 64) (b.map B)) := by
  have hk : Kept1 gs w (w.setCells gs (i * 64) (b.map B)) := Kept1.setCells gs (.inl rfl) _ _ (Kept1.refl gs w)
  have hlen := length_secs h.ok.len
  have hsec := heap_setCells gs 64 (b.map B) (i * 64) (secsC s.S) w h.sec (by rw [hlen, List.length_map, hb]; have := Nat.mul_le_mul_right 64 (Nat.succ_le_of_lt hi); omega)
  rw [secs_set h.ok.len i hi b hb] at hsec
  refine ⟨⟨?_, hsec, own_same h.wait fun g hg => hk.block g (h.wait.lt g hg).2 (fun e => h.ng (by rw [hg, e])), ⟨fun x hx => ?_, by simpa using h.ok.lim, by simpa using h.ok.wok⟩, h.ne, h.nd, h.ng, h.dN, h.gN⟩, hk⟩
  · rw [hk.block d h.lt.1 (Ne.symm h.ne), h.blk]
    simp [DSt.cells]
  · rcases List.mem_or_eq_of_mem_set hx with hx | rfl
    · exact h.ok.len x hx
    · exact hb
/-- what a write has behind its place and what stood there -/
theorem range_after {w : World} {G : Nat} {t : TypeId} {r : WrR} (h : w.heap[G]? = some (.cells r.cells.toArray t (0, 0))) (hb : r.before.length = 64) : w.rangeAt G 65 (r.after.map B) := fun j x hx => by
  rw [cell_block h, List.getElem?_toArray]
  unfold WrR.cells
  rw [show 65 + j = (64 + j) + 1 by omega, List.getElem?_cons_succ, List.getElem?_append_right (by rw [List.length_map]; omega), List.length_map, hb, Nat.add_sub_cancel_left, hx]
theorem range_before {w : World} {G : Nat} {t : TypeId} {r : WrR} (h : w.heap[G]? = some (.cells r.cells.toArray t (0, 0))) : w.rangeAt G 1 (r.before.map B) := fun j x hx => by
  have hj := (List.getElem?_eq_some_iff.1 hx).1
  rw [cell_block h, List.getElem?_toArray]
  unfold WrR.cells
  rw [show 1 + j = j + 1 by omega, List.getElem?_cons_succ, List.getElem?_append_left hj, hx]
theorem there_sec {w : World} {N d gs : Nat} {v : Value} {s : DSt} (h : DAt w N d gs v s) (i : Nat) (hi : i < s.S.length) : w.there gs (i * 64) 64 :=
  there_blk h.sec _ _ (by rw [length_secs h.ok.len]; have := Nat.mul_le_mul_right 64 (Nat.succ_le_of_lt hi); omega)
theorem join {G : Prop} {C : Value → World → Prop} (P : Value → World → Prop) (main : (∀ v w, C v w → P v w) → G) (rest : ∀ v w, C v w → P v w) : G := main rest
set_option maxRecDepth 100000 in
set_option maxHeartbeats 2000000 in
theorem write_any (w : World) (N d gs : Nat) (v : Value) (s : DSt) (h : DAt w N d gs v s) (hg : s.gone = false) (i : Nat) (hi : i < s.S.length) (b : List UInt8) (hb : b.length = 64) (g o cap : Nat)
    (hsrc : w.rangeAt g o (b.map B)) (hglt : g < w.heap.size) (hws : s.ws.length ≤ 1000) (hf : s.fuse ≤ 9223372036854775807) :
    Calls Try.prog 12 #[.pointer (some ⟨d, 0, none⟩), .int .i64 (i : Int), .slice (some ⟨g, o, none⟩) 64 cap] w fun e w' => e = .returned (.int .i64 0) ∧ ∃ v', Wrote w N d gs v (s.wrote i b) v' w' := by
  obtain ⟨c0, c1, c2, c3⟩ := h.cell
  have hdlt := h.lt.1
  have hgslt := h.lt.2
  have hr := h.range i hi
  obtain ⟨r, hrd⟩ : ∃ r : WrR, r = ⟨i, s.S[i], b⟩ := ⟨_, rfl⟩
  have hr1 : r.before.length = 64 := by rw [hrd]; exact h.ok.len _ (List.getElem_mem hi)
  have hr2 : r.after.length = 64 := by rw [hrd]; exact hb
  have hbuilt := built_wr r hr1 hr2
  have hcl := length_cells r hr1 hr2
  have e1 : s.S[i] = r.before := by rw [hrd]
  have e2 : b = r.after := by rw [hrd]
  have e3 : i = r.place := by rw [hrd]
  rw [e1] at hr
  rw [e2] at hsrc
  have Hr := Lib.hid hr
  have Hsrc := Lib.hid hsrc
  have Hbuilt := Lib.hid hbuilt
  have Hcl := Lib.hid hcl
  have Hrd := Lib.hid hrd
  have H1 := Lib.hid hr1
  have H2 := Lib.hid hr2
  have H := Lib.hid h
  have E3 := Lib.hid e3
  have hb64 : (r.before.map B).length = 64 := by simpa using hr1
  have ha64 : (r.after.map B).length = 64 := by simpa using hr2
  rw [hg] at c3
  have hlim := h.ok.lim
  have i1 : (0 : Int) ≤ (i : Int) := by omega
  have i2 : (i : Int) < (s.S.length : Int) := by omega
  have hz129 : z129.length = 129 := rfl
  have hzv := zero_wr'
  have Hb64 := Lib.hid hb64
  have Ha64 := Lib.hid ha64
  have Hz := Lib.hid hz129
  generalize z129 = Z at *
  clear h hr hsrc hbuilt hcl hrd hr1 hr2 e1 e2 e3 hb64 ha64 hz129 hg c1 c2
  go_enter Try.func12, Try.ntmps12
  go_wp2_with fail
  refine (has_yes w N d gs v s H.out i hi).mono ?_
  rintro e w' ⟨rfl, rfl⟩
  go_wp2_with fail
  refine wp_region_fresh 13 [.calm, .calm, .calm, .calm, .calm, .calm, .calm, .calm, .calm, .calm, .calm, .calm, .fresh] (fun _ => .cells Z.toArray 66) (fun _ => .cells Z.toArray 66) (fun _ G => .pointer (some ⟨G, 0, none⟩)) (by kernel_rfl) (by kernel_rfl) (by kernel_rfl) ?_
  intro R hR
  have hne := hR.nonempty
  simp only [List.take_succ_cons, List.take_zero, List.drop_succ_cons, List.drop_zero, calmL]
  have cm0 : ∀ m : BlR w R, m.wr.cell? ⟨d, 0, none⟩ = some (.slice (some ⟨gs, 0, none⟩) s.S.length s.S.length) := fun m => by rw [m.below.cell (by exact hdlt)]; exact c0
  iterate 7 (go_big_quiet_step (fail))
  refine wpQuiet_load_mid rfl 64 (.tmp 27) rfl gs (i * 64) (by first | rfl | (simp [Act.eval]; omega)) (r.before.map B) _ (fun w' ⟨m, hw'⟩ => hw' ▸ range_below m.below Hr.out hgslt) Try.underlying64 rfl (info_sec _ Hb64.out) ?_
  simp only [Act.put, List.setIfInBounds_toArray, List.set_cons_succ, List.set_cons_zero]
  go_big_quiet_step (fail)
  refine wpQuiet_of_op rfl (.pointer (some ⟨g, o, none⟩)) (fun w' _ => run_array_op (.tmp 29) rfl _ cap rfl w') ?_
  simp only [Act.put, List.setIfInBounds_toArray, List.set_cons_succ, List.set_cons_zero]
  refine wpQuiet_load_mid rfl 64 (.tmp 30) rfl g o (by first | rfl | (simp [Act.eval]; omega)) (r.after.map B) _ (fun w' ⟨m, hw'⟩ => hw' ▸ range_below m.below Hsrc.out hglt) Try.underlying64 rfl (info_sec _ Ha64.out) ?_
  simp only [Act.put, List.setIfInBounds_toArray, List.set_cons_succ, List.set_cons_zero]
  refine wpQuiet_of_op rfl (.agg r.cells.toArray) (fun w' _ => run_build_op 66 _ rfl [(0, .int .i64 (r.place : Int)), (1, .agg (r.before.map B).toArray), (2, .agg (r.after.map B).toArray)] (by rw [← E3.out]; kernel_rfl) _ Hbuilt.out) ?_
  simp only [Act.put, List.setIfInBounds_toArray, List.set_cons_succ, List.set_cons_zero]
  refine wpQuiet_nil ?_
  refine ⟨?_, ?_⟩
  · simp only [obF, Nat.reduceAdd]
    exact ⟨⟨fun a' w' _ _ => run_alloc_op 66 rfl Z hzv w', .inl trivial⟩, trivial⟩
  intro γ w1 hf1
  clear hR hne R cm0
  simp only [putF, Nat.reduceAdd, Act.put, List.setIfInBounds_toArray, List.set_cons_succ, List.set_cons_zero]
  obtain ⟨gna, hn⟩ := hf1.block 12 rfl
  have hb1 := hf1.below
  clear hf1
  generalize γ 12 = G at *
  refine wpList_store_row rfl 66 (.tmp 7) (.tmp 32) rfl G r.cells.toArray rfl rfl 66 Z.toArray hn (info_wr _ (by simp [Hcl.out])) (by simp [Hz.out, Hcl.out]) (all_oneCell_toArray (one_wr r)) ?_
  simp only [Act.put]
  have sn := set1_setRow (cells := r.cells.toArray) hn
  generalize w1.setRow G r.cells.toArray = w2 at *
  have hG := sn.new
  have hb2 := sn.below hb1 gna
  clear sn hn hb1
  have D2 := H.out.below hb2
  have HG := Lib.hid hG
  have HB2 := Lib.hid hb2
  have HD2 := Lib.hid D2
  clear hG hb2 D2 c0 c3
  obtain ⟨c0, c1, c2, c3⟩ := HD2.out.cell
  have f1 := HD2.out.frozen 1
  have hG2 : G < w2.heap.size := lt_block HG.out
  have hNle : N ≤ w2.heap.size := by have := HD2.out.dN; have := HD2.out.lt.1; omega
  have HRG := Lib.hid (range_block0 HG.out)
  have BEL : Hid (Below w2.heap.size w2 (w2.drew.alloc (.cells r.cells.toArray 66))) := Lib.hid ((Below.refl w2.heap.size w2).drew.alloc (Nat.le_refl _) _)
  have OWN : Hid ((w2.drew.alloc (.cells r.cells.toArray 66)).ownsRow N 66 129 v s.ws.length (cellsW s.ws)) := Lib.hid (own_same HD2.out.wait fun g hg => BEL.out.block g (HD2.out.wait.lt g hg).2)
  have SRC : Hid ((w2.drew.alloc (.cells r.cells.toArray 66)).heap[w2.heap.size]? = some (.cells r.cells.toArray 66 (0, 0))) := Lib.hid (heap_alloc_new w2.drew _)
  have RO : Hid (r.place < s.S.length ∧ r.before.length = 64 ∧ r.after.length = 64) := Lib.hid ⟨by rw [← E3.out]; exact hi, H1.out, H2.out⟩
  have C3 : Hid (∀ w3, (w2.drew.alloc (.cells r.cells.toArray 66)).grownBy w3 v.ownBlock → w3.cell? ⟨d, 1, none⟩ = some v ∧ w3.frozen? ⟨d, 1, none⟩ = false) := Lib.hid (fun w3 hgr => by
    have hbd := (grown_d HD2.out BEL.out hgr d HD2.out.lt.1 HD2.out.nd).trans HD2.out.blk
    exact ⟨by rw [cell_block hbd]; rfl, frozen_of_row w3 d 1 _ _ hbd⟩)
  have c1a : (w2.alloc (.cells r.cells.toArray 66)).cell? ⟨d, 1, none⟩ = some v := by rw [World.cell?_alloc_lt _ _ _ (by exact HD2.out.lt.1)]; exact c1
  go_wp2_with fail
  apply join (C := fun v' w' => Hid (Six w2 N d gs v { s with ws := s.ws ++ [r] } v' w'))
  case main =>
    intro key
    have HKEY := Lib.hid key
    clear key
    refine wp_region_any (by kernel_rfl) ?_
    change wpAny _ _ _ _ _ _ _ (World.drew _)
    refine wpAny_take (i := 0) (v := ?_) rfl (by kernel_rfl) (by kernel_rfl) (by kernel_rfl) (fun _ _ _ h => h) (Or.inl ⟨by rfl, ?_⟩) ?_
    rotate_left 1
    · intro w; go_simp; try with_reducible rfl
    refine wpAny_take (i := 1) (v := ?_) rfl (by kernel_rfl) (by kernel_rfl) (by kernel_rfl) (fun _ _ _ h => h) (Or.inl ⟨by rfl, ?_⟩) ?_
    rotate_left 1
    · intro w; go_simp; try with_reducible rfl
    refine wpAny_take (i := 2) (v := ?_) rfl (by kernel_rfl) (by kernel_rfl) (by kernel_rfl) (fun _ _ _ h => h) (Or.inl ⟨by rfl, ?_⟩) ?_
    rotate_left 1
    · intro w; go_simp; try with_reducible rfl
    refine wpAny_take (i := 3) (v := ?_) rfl (by kernel_rfl) (by kernel_rfl) (by kernel_rfl) (fun _ _ _ h => h) (Or.inl ⟨by rfl, ?_⟩) ?_
    rotate_left 1
    · intro w; go_simp; try with_reducible rfl
    refine wpAny_ready (rs := [4, 5]) (by kernel_rfl) (by simp) ?_
    refine AllReady.cons rfl (fun K hK => ?_) ?_
    · go_simp
      refine hK _ _ ?_; clear hK K
      refine wpAny_ready (rs := [5]) (by kernel_rfl) (by simp) ?_
      refine AllReady.cons rfl (fun K hK => ?_) ?_
      · refine step_run rfl _ _ (run_load_op 66 (.tmp 7) rfl G 0 rfl r.cells _ (by simpa using HRG.out) Try.underlying66 rfl (info_wr _ Hcl.out)) ?_
        simp only [Act.put, List.setIfInBounds_toArray]
        refine hK _ _ ?_; clear hK K
        refine wpAny_ready (rs := [6]) (by kernel_rfl) (by simp) ?_
        refine AllReady.cons rfl (fun K hK => ?_) ?_
        · refine step_run rfl _ _ (run_build1_op 59 66 (.tmp 38) rfl r.cells Z rfl Try.underlying59 (fun w => by rw [Hcl.out]; exact size_wr w) hzv (by rw [Hcl.out]; omega) (by rw [Hcl.out]; omega) _) ?_
          simp only [Act.put]
          refine hK _ _ ?_; clear hK K
          refine wpAny_ready (rs := [7]) (by kernel_rfl) (by simp) ?_
          refine AllReady.cons rfl (fun K hK => ?_) ?_
          · refine step_append_w rfl (.tmp 37) (.tmp 39) rfl N s.ws r v rfl OWN.out w2.heap.size rfl SRC.out Hcl.out (by omega) (by simp; omega) ?_
            intro g' cap' w3 hown3 hgr3 hg3
            have S6 := Lib.hid (six_of HD2.out BEL.out hown3 hgr3 hg3 RO.out)
            obtain ⟨p1, q1⟩ := C3.out w3 hgr3
            clear hown3 hgr3 hg3
            simp only [Act.put]
            refine hK _ _ ?_; clear hK K
            refine wpAny_ready (rs := [8]) (by kernel_rfl) (by simp) ?_
            refine AllReady.cons rfl (fun K hK => ?_) ?_
            · go_simp
              refine hK _ _ ?_; clear hK K
              refine wpAny_ready (rs := [9]) (by kernel_rfl) (by simp) ?_
              refine AllReady.cons rfl (fun K hK => ?_) ?_
              · go_simp
                refine hK _ _ ?_; clear hK K
                refine wpAny_ready (rs := [10]) (by kernel_rfl) (by simp) ?_
                refine AllReady.cons rfl (fun K hK => ?_) ?_
                · go_simp
                  refine hK _ _ ?_; clear hK K
                  refine wpAny_done (by kernel_rfl) ?_ _
                  generalize Value.slice (some ⟨g', 0, none⟩) (s.ws.length + 1) cap' = v' at S6 ⊢
                  generalize World.setCell w3 ⟨d, 1, none⟩ v' = w4 at S6 ⊢
                  exact HKEY.out v' w4 S6
                exact AllReady.nil
              exact AllReady.nil
            exact AllReady.nil
          exact AllReady.nil
        exact AllReady.nil
      exact AllReady.nil
    refine AllReady.cons rfl (fun K hK => ?_) ?_
    · refine step_run rfl _ _ (run_load_op 66 (.tmp 7) rfl G 0 rfl r.cells _ (by simpa using HRG.out) Try.underlying66 rfl (info_wr _ Hcl.out)) ?_
      simp only [Act.put, List.setIfInBounds_toArray]
      refine hK _ _ ?_; clear hK K
      refine wpAny_ready (rs := [4, 6]) (by kernel_rfl) (by simp) ?_
      refine AllReady.cons rfl (fun K hK => ?_) ?_
      · go_simp
        refine hK _ _ ?_; clear hK K
        refine wpAny_ready (rs := [6]) (by kernel_rfl) (by simp) ?_
        refine AllReady.cons rfl (fun K hK => ?_) ?_
        · refine step_run rfl _ _ (run_build1_op 59 66 (.tmp 38) rfl r.cells Z rfl Try.underlying59 (fun w => by rw [Hcl.out]; exact size_wr w) hzv (by rw [Hcl.out]; omega) (by rw [Hcl.out]; omega) _) ?_
          simp only [Act.put, List.setIfInBounds_toArray]
          refine hK _ _ ?_; clear hK K
          refine wpAny_ready (rs := [7]) (by kernel_rfl) (by simp) ?_
          refine AllReady.cons rfl (fun K hK => ?_) ?_
          · refine step_append_w rfl (.tmp 37) (.tmp 39) rfl N s.ws r v rfl OWN.out w2.heap.size rfl SRC.out Hcl.out (by omega) (by simp; omega) ?_
            intro g' cap' w3 hown3 hgr3 hg3
            have S6 := Lib.hid (six_of HD2.out BEL.out hown3 hgr3 hg3 RO.out)
            obtain ⟨p1, q1⟩ := C3.out w3 hgr3
            clear hown3 hgr3 hg3
            simp only [Act.put]
            refine hK _ _ ?_; clear hK K
            refine wpAny_ready (rs := [8]) (by kernel_rfl) (by simp) ?_
            refine AllReady.cons rfl (fun K hK => ?_) ?_
            · go_simp
              refine hK _ _ ?_; clear hK K
              refine wpAny_ready (rs := [9]) (by kernel_rfl) (by simp) ?_
              refine AllReady.cons rfl (fun K hK => ?_) ?_
              · go_simp
                refine hK _ _ ?_; clear hK K
                refine wpAny_ready (rs := [10]) (by kernel_rfl) (by simp) ?_
                refine AllReady.cons rfl (fun K hK => ?_) ?_
                · go_simp
                  refine hK _ _ ?_; clear hK K
                  refine wpAny_done (by kernel_rfl) ?_ _
                  generalize Value.slice (some ⟨g', 0, none⟩) (s.ws.length + 1) cap' = v' at S6 ⊢
                  generalize World.setCell w3 ⟨d, 1, none⟩ v' = w4 at S6 ⊢
                  exact HKEY.out v' w4 S6
                exact AllReady.nil
              exact AllReady.nil
            exact AllReady.nil
          exact AllReady.nil
        exact AllReady.nil
      refine AllReady.cons rfl (fun K hK => ?_) ?_
      · refine step_run rfl _ _ (run_build1_op 59 66 (.tmp 38) rfl r.cells Z rfl Try.underlying59 (fun w => by rw [Hcl.out]; exact size_wr w) hzv (by rw [Hcl.out]; omega) (by rw [Hcl.out]; omega) _) ?_
        simp only [Act.put]
        refine hK _ _ ?_; clear hK K
        refine wpAny_ready (rs := [4]) (by kernel_rfl) (by simp) ?_
        refine AllReady.cons rfl (fun K hK => ?_) ?_
        · go_simp
          refine hK _ _ ?_; clear hK K
          refine wpAny_ready (rs := [7]) (by kernel_rfl) (by simp) ?_
          refine AllReady.cons rfl (fun K hK => ?_) ?_
          · refine step_append_w rfl (.tmp 37) (.tmp 39) rfl N s.ws r v rfl OWN.out w2.heap.size rfl SRC.out Hcl.out (by omega) (by simp; omega) ?_
            intro g' cap' w3 hown3 hgr3 hg3
            have S6 := Lib.hid (six_of HD2.out BEL.out hown3 hgr3 hg3 RO.out)
            obtain ⟨p1, q1⟩ := C3.out w3 hgr3
            clear hown3 hgr3 hg3
            simp only [Act.put, List.setIfInBounds_toArray]
            refine hK _ _ ?_; clear hK K
            refine wpAny_ready (rs := [8]) (by kernel_rfl) (by simp) ?_
            refine AllReady.cons rfl (fun K hK => ?_) ?_
            · go_simp
              refine hK _ _ ?_; clear hK K
              refine wpAny_ready (rs := [9]) (by kernel_rfl) (by simp) ?_
              refine AllReady.cons rfl (fun K hK => ?_) ?_
              · go_simp
                refine hK _ _ ?_; clear hK K
                refine wpAny_ready (rs := [10]) (by kernel_rfl) (by simp) ?_
                refine AllReady.cons rfl (fun K hK => ?_) ?_
                · go_simp
                  refine hK _ _ ?_; clear hK K
                  refine wpAny_done (by kernel_rfl) ?_ _
                  generalize Value.slice (some ⟨g', 0, none⟩) (s.ws.length + 1) cap' = v' at S6 ⊢
                  generalize World.setCell w3 ⟨d, 1, none⟩ v' = w4 at S6 ⊢
                  exact HKEY.out v' w4 S6
                exact AllReady.nil
              exact AllReady.nil
            exact AllReady.nil
          exact AllReady.nil
        exact AllReady.nil
      exact AllReady.nil
    exact AllReady.nil
  case rest =>
    intro v' w3 S6
    have D3 := S6.out.at'
    have hG3 : w3.heap[G]? = some (.cells r.cells.toArray 66 (0, 0)) := S6.out.kept.heap HG.out (fun hF => by have := (H.out.footN hF).2; omega)
    have HG3 := Lib.hid hG3
    have HD3 := Lib.hid D3
    have hG3lt : G < w3.heap.size := lt_block hG3
    have hd3lt : d < w3.heap.size := D3.lt.1
    clear D3 hG3 HRG BEL OWN SRC C3 c0 c1 c2 c3 f1 c1a HG
    obtain ⟨c0, -⟩ := HD3.out.cell
    dsimp only at c0
    go_wp2_with fail
    refine wp_region_fresh 7 [.calm, .calm, .calm, .calm, .calm, .calm, .calm] (fun _ => .cells #[] 0) (fun _ => .cells #[] 0) (fun _ _ => undef) (by kernel_rfl) (by kernel_rfl) (by kernel_rfl) ?_
    intro R hR
    have hne := hR.nonempty
    simp only [List.take_succ_cons, List.take_zero, List.drop_succ_cons, List.drop_zero, calmL]
    have cm0 : ∀ m : BlR w3 R, m.wr.cell? ⟨d, 0, none⟩ = some (.slice (some ⟨gs, 0, none⟩) s.S.length s.S.length) := fun m => by rw [m.below.cell (by exact hd3lt)]; exact c0
    iterate 6 (go_big_quiet_step (fail))
    refine wpQuiet_load_mid rfl 64 (.tmp 48) rfl G 65 (by first | rfl | (simp [Act.eval]; omega)) (r.after.map B) _ (fun w' ⟨m, hw'⟩ => hw' ▸ range_below m.below (range_after HG3.out H1.out) hG3lt) Try.underlying64 rfl (info_sec _ Ha64.out) ?_
    simp only [Act.put, List.setIfInBounds_toArray, List.set_cons_succ, List.set_cons_zero]
    refine wpQuiet_nil ?_
    refine ⟨by simp only [obF], ?_⟩
    intro γ w4 hf4
    clear cm0 hR hne R
    simp only [putF]
    have hb4 := hf4.below
    clear hf4
    have D4 := HD3.out.below hb4
    have HT := Lib.hid (there_sec D4 i hi)
    have HP := Lib.hid (D4.put i hi r.after H2.out)
    have HB4 := Lib.hid hb4
    clear D4 hb4 HG3
    go_wp2_with (refine wpList_store_mid rfl 64 (.tmp 50) (.tmp 49) rfl gs (i * 64) (r.after.map B).toArray rfl rfl (by simpa [Ha64.out] using HT.out) (info_sec _ (by simp [Ha64.out])) (all_oneCell_toArray (one_bytes _)) ?_)
    obtain ⟨D5, K5⟩ := HP.out
    generalize World.setCells w4 gs (i * 64) (r.after.map B) = w5 at *
    refine (burn_any w5 N d gs v' _ D5 hf).mono ?_
    rintro e w6 ⟨rfl, D6, K6⟩
    have HD6 := Lib.hid D6
    have HK6 := Lib.hid K6
    have HK5 := Lib.hid K5
    clear D6 K6 K5 D5
    go_wp2_with fail
    go_ret
    refine ⟨rfl, v', ⟨?_, ?_, ?_⟩⟩
    · have e : s.wrote i b = DSt.burnt { S := s.S.set i r.after, ws := s.ws ++ [r], fuse := s.fuse, gone := s.gone } := by
        unfold DSt.wrote
        rw [Hrd.out, List.getElem?_eq_getElem hi]
        rfl
      rw [e]; exact HD6.out
    · have k1 : KeptF (foot d gs v) w w2 := .of_below HB2.out
      have k2 := k1.trans S6.out.kept fun _ _ h => h
      have k3 : KeptF (foot d gs v) w3 w4 := .of_below HB4.out
      have k5 : KeptF (foot d gs v) w4 w5 := .of_kept1 HK5.out fun _ => .inr (.inl rfl)
      have k6 : KeptF (foot d gs v) w5 w6 := .of_kept1 HK6.out fun _ => .inl rfl
      exact ((k2.trans k3 fun _ _ h => h).trans k5 fun _ _ h => h).trans k6 fun _ _ h => h
    · intro k hk
      rcases S6.out.own k hk with h | h
      · exact .inl h
      · exact .inr (Nat.le_trans HB2.out.size h)
end Go.Proofs.Ytammnjfccjfbhaa
