/- Crash. -/
import Derived.Test.YtammnjfccjfbhaaDBack
namespace Go.Proofs.Ytammnjfccjfbhaa
open Go.RowKit Go.Shelf
attribute [local go_sem] Oper.semAt_some

/-- sectors with what stood there ahead of these writes -/
def undoL (S : List (List UInt8)) (l : List WrR) : List (List UInt8) := l.foldl (fun S r => S.set r.place r.before) S
/-- sectors with those of the writes that are picked -/
def redoL : List Bool → List WrR → List (List UInt8) → List (List UInt8)
  | b :: bs, r :: ws, S => redoL bs ws (if b then S.set r.place r.after else S)
  | _, _, S => S
theorem undoL_snoc (S : List (List UInt8)) (l : List WrR) (r : WrR) : undoL S (l ++ [r]) = (undoL S l).set r.place r.before := by simp [undoL]
theorem length_undoL (l : List WrR) : ∀ S, (undoL S l).length = S.length := by
  induction l with
  | nil => intro S; rfl
  | cons r l ih => intro S; simp only [undoL, List.foldl_cons] at ih ⊢; rw [ih]; simp
theorem redoL_snoc : ∀ (bs : List Bool) (ws : List WrR) (S : List (List UInt8)) (k : Nat) (hk : k < ws.length),
    redoL bs (ws.take (k + 1)) S = if bs.getD k false then (redoL bs (ws.take k) S).set ws[k].place ws[k].after else redoL bs (ws.take k) S
  | [], r :: ws, S, k, hk => by cases k <;> simp [redoL]
  | b :: bs, r :: ws, S, 0, hk => by simp [redoL]
  | b :: bs, r :: ws, S, k + 1, hk => by
    have := redoL_snoc bs ws (if b then S.set r.place r.after else S) k (by simpa using hk)
    simpa [redoL] using this
theorem length_redoL : ∀ (bs : List Bool) (ws : List WrR) (S : List (List UInt8)), (redoL bs ws S).length = S.length
  | b :: bs, r :: ws, S => by rw [redoL, length_redoL bs ws]; split <;> simp
  | [], _, S => by simp [redoL]
  | _ :: _, [], S => by simp [redoL]
/-- the state behind a crash -/
def DSt.crash (s : DSt) (bs : List Bool) : DSt := ⟨redoL bs s.ws (undoL s.S s.ws.reverse), [], 0, false⟩

section
variable {P : Program} {ops : Array Oper} {Q : Exit → Act → World → Prop} {rest : List Oper} {o : Oper} {a : Act} {w : World}
theorem wpList_run (hgd : o.guard = none) (v : Value) (w' : World) (hr : (execOp a.eval o).run P w = .ok (.value v) w') (h : wpList P ops Q rest (a.put o.dst v) w') : wpList P ops Q (o :: rest) a w := by
  refine wpList_plain hgd fun K hK => ?_
  unfold Oper.wp
  rw [hr]
  exact hK _ _ h
end
/-- a disk in mid-crash -/
structure Mid (w W0 : World) (N d gs : Nat) (v : Value) (s : DSt) (S : List (List UInt8)) (W : World) : Prop where
  at' : DAt W N d gs v { s with S := S }
  box : W.heap[w.heap.size]? = some (.cells #[.pointer (some ⟨d, 0, none⟩)] 26 (0, 0))
  kept : KeptB W0.heap.size gs W0 W
theorem Mid.own {w W0 : World} {N d gs : Nat} {v : Value} {s : DSt} {β : Type} (f : β → List (List UInt8)) (h0 : DAt w N d gs v s) (hW : w.heap.size + 1 ≤ W0.heap.size) : OwnFrom W0.heap.size (fun (x : β) W => Mid w W0 N d gs v s (f x) W) := fun x A B row hs hg hr => by
  have hne : ∀ k, k < W0.heap.size → row ≠ some k := fun k hk e => by have := (hr k e).1; omega
  have hsz := hs.kept.size
  refine ⟨hs.at'.same fun k hk => hg.block k (hs.at'.footN hk).2 (Ne.symm (hne k (by have := (h0.footN hk).2; omega))), ?_, hs.kept.trans (.of_grown hg hsz fun r e => .inl (hr r e).1)⟩
  exact (hg.block _ (lt_block hs.box) (Ne.symm (hne _ (by omega)))).trans hs.box

theorem Mid.below {w W0 W W' : World} {N d gs : Nat} {v : Value} {s : DSt} {S : List (List UInt8)} (h : Mid w W0 N d gs v s S W) (hb : Below W.heap.size W W') : Mid w W0 N d gs v s S W' :=
  ⟨h.at'.below hb, (hb.block _ (lt_block h.box)).trans h.box, h.kept.trans (.of_below (hb.mono h.kept.size))⟩
theorem Mid.put {w W0 W : World} {N d gs : Nat} {v : Value} {s : DSt} {S : List (List UInt8)} (h : Mid w W0 N d gs v s S W) (hg : gs ≠ w.heap.size) (i : Nat) (hi : i < S.length) (b : List UInt8) (hb : b.length = 64) :
    Mid w W0 N d gs v s (S.set i b) (W.setCells gs (i * 64) (b.map B)) ∧ Kept1 gs W (W.setCells gs (i * 64) (b.map B)) := by
  obtain ⟨D5, K5⟩ := h.at'.put i hi b hb
  exact ⟨⟨D5, (K5.block _ (lt_block h.box) (Ne.symm hg)).trans h.box, h.kept.trans (.of_kept1 K5 h.kept.size)⟩, K5⟩
set_option maxRecDepth 100000 in
set_option maxHeartbeats 4000000 in
theorem crash_any (w : World) (N d gs : Nat) (v : Value) (s : DSt) (h : DAt w N d gs v s) (hws : s.ws.length ≤ 1000) (pa : Option Addr) (pg po pc : Nat) (bs : List Bool) (hbl : bs.length ≤ 100000)
    (hpa : bs ≠ [] → pa = some ⟨pg, po, none⟩) (hpc : ∀ j, (hj : j < bs.length) → w.cell? ⟨pg, po + j, none⟩ = some (.bool bs[j])) (hpf : bs ≠ [] → ¬ foot d gs v pg) :
    Calls Try.prog 16 #[.pointer (some ⟨d, 0, none⟩), .slice pa bs.length pc] w fun e w' => e = .returned (.tuple #[]) ∧ DAt w' N d gs (.slice none 0 0) (s.crash bs) ∧ KeptF (foot d gs v) w w' := by
  refine callsIn_wide (n := 4).1 ?_
  refine callsIn_of_wp_marks Try.func16 rfl trivial ?_ rfl
  simp only [Try.ntmps16, List.size_toArray, List.length_cons, List.length_nil, Nat.reduceAdd, Nat.reduceSub, Array.replicate_succ, Array.replicate_zero, List.push_toArray, List.append_toArray, List.nil_append, List.cons_append]
  obtain ⟨ad, cp, hv⟩ : ∃ ad cp, v = .slice ad s.ws.length cp := by
    rcases h.wait.2 with ⟨rfl, hn⟩ | ⟨g, cap, cur, rfl, _⟩
    · exact ⟨none, 0, by rw [hn]⟩
    · exact ⟨_, _, rfl⟩
  obtain ⟨c0, c1, c2, c3⟩ := h.cell
  rw [hv] at c1
  have hdlt := h.lt.1
  have hwf := fun r hr => (h.ok.wok r hr).2
  have c1' : (w.alloc (.cells #[.pointer (some ⟨d, 0, none⟩)] 26)).cell? ⟨d, 1, none⟩ = some (.slice ad s.ws.length cp) := by rw [World.cell?_alloc_lt _ _ _ (by exact hdlt)]; exact c1
  have H := Lib.hid h
  have Hv := Lib.hid hv
  have Hpa := Lib.hid hpa
  have Hpc := Lib.hid hpc
  have Hpf := Lib.hid hpf
  have Hwf := Lib.hid hwf
  clear h hv hpa hpc hpf c0 c1 c2 c3 hwf
  gi_wp2
  refine ⟨trivial, (callsIn_wide.2 (back_any _ _ _ _)).mono ?_⟩
  rintro e w' ⟨rfl, rfl⟩
  gi_wp2
  obtain ⟨W0, hW0⟩ : ∃ W0, (w.alloc (.cells #[.pointer (some ⟨d, 0, none⟩)] 26)).alloc (.cells #[.slice ad s.ws.length cp] 59) = W0 := ⟨_, rfl⟩
  rw [hW0]
  have sz0 : W0.heap.size = w.heap.size + 2 := by rw [← hW0]; simp
  have b0 : Below w.heap.size w W0 := by rw [← hW0]; exact ((Below.refl _ _).alloc (Nat.le_refl _) _).alloc (by simp) _
  have x0 : W0.heap[w.heap.size]? = some (.cells #[.pointer (some ⟨d, 0, none⟩)] 26 (0, 0)) := by rw [← hW0]; exact (heap2 _ _ _).1
  have x1 : W0.cell? ⟨w.heap.size + 1, 0, none⟩ = some v := by rw [Hv.out, ← hW0, cell_block (heap2 _ _ _).2]; rfl
  have D0 := H.out.below b0
  have hlt := H.out.lt
  have hft : ∀ g, v.ownBlock = some g → g < W0.heap.size ∧ g ≠ gs := fun g hg => ⟨by have := (H.out.wait.lt g hg).2; omega, fun e => H.out.ng (by rw [hg, e])⟩
  have HS := Lib.hid (back_stops 3 (w.heap.size + 1) W0.heap.size gs N v s.ws hws Hwf.out W0 (by omega) (by omega) (Nat.le_refl _) hft x1 D0.wait)
  have HM : Hid (Mid w W0 N d gs v s s.S W0) := Lib.hid ⟨D0, x0, KeptB.refl _ _ _⟩
  have HB0 := Lib.hid b0
  have Hsz := Lib.hid sz0
  have hszle : w.heap.size + 1 ≤ W0.heap.size := by omega
  clear hW0 sz0 b0 x0 x1 D0 hft c1'
  refine wpIn_rangeFunc_ownH rfl (by omega) (gf := 26) (lb := #[.pointer (some ⟨w.heap.size + 1, 0, none⟩)]) rfl trivial (enters_of Try.func26 (by kernel_rfl) rfl)
    HS.out (fun h k => h.trans k) (KeptB.put (Nat.le_refl _)) (Below.refl _ _) (fun _ => rfl)
    (fun pre W => Mid w W0 N d gs v s (undoL s.S (pre.map s.ws.get)) W) (fun _ _ _ => False)
    (Mid.own (fun pre => undoL s.S (List.map s.ws.get pre)) H.out hszle) (fun _ _ _ _ _ hs _ _ => hs) HM.out
    (fun x a' W => ∃ G, W0.heap.size ≤ G ∧ W.heap[G]? = some (.cells (s.ws.get x).cells.toArray 66 (0, 0)) ∧ a' = { tmps := #[.pointer (some ⟨d, 0, none⟩), .slice pa bs.length pc, .pointer (some ⟨w.heap.size, 0, none⟩), undef, undef, .pointer (some ⟨G, 0, none⟩), undef, undef, .pointer (some ⟨d, 0, none⟩), .pointer (some ⟨d, 0, none⟩), .pointer (some ⟨d, 1, none⟩), .slice ad s.ws.length cp, .func (.func 26) #[] #[.pointer (some ⟨w.heap.size + 1, 0, none⟩)], .int .i64 ((x.val : Nat) : Int), .agg (s.ws.get x).cells.toArray, undef, undef, undef, undef, undef, undef, undef, undef, undef, undef, undef, undef, undef, undef, undef, undef, undef, undef, undef, undef, undef, undef, undef, undef, undef, undef, undef, undef, undef, undef, undef, undef, undef, undef, undef, undef, undef, undef, undef, undef, undef, undef, undef, undef, undef, undef, undef, undef], defers := [] })
    (fun x a' _ A B row hs hg hr => ?hAx) ?assign ?body ?done ?stop
  case hAx =>
    obtain ⟨G, h1, h2, h3⟩ := hs
    refine ⟨G, h1, (hg.block G (lt_block h2) (fun e => ?_)).trans h2, h3⟩
    obtain ⟨_, o, ho, hc⟩ := hr G e.symm
    rw [h2] at ho
    cases ho
    cases hc
  case assign =>
    rintro l pre x W K hi hK
    have hzv := zero_wr'
    have hz129 : z129.length = 129 := rfl
    have hcl := length_cells (s.ws.get x) (Hwf.out _ (List.get_mem _ _)).1 (Hwf.out _ (List.get_mem _ _)).2
    generalize z129 = Z at *
    have hWle := hi.kept.size
    have s1 := set1_setRow (w := W.alloc (.cells Z.toArray 66)) (G := W.heap.size) (cells := (s.ws.get x).cells.toArray) (heap_alloc_new _ _)
    have b1 : Below W.heap.size W ((W.alloc (.cells Z.toArray 66)).setRow W.heap.size (s.ws.get x).cells.toArray) := s1.below ((Below.refl _ _).alloc (Nat.le_refl _) _) (Nat.le_refl _)
    have k1 : KeptB W0.heap.size gs W ((W.alloc (.cells Z.toArray 66)).setRow W.heap.size (s.ws.get x).cells.toArray) := .of_below (b1.mono hWle)
    have m1 : Mid w W0 N d gs v s (undoL s.S (pre.map s.ws.get)) ((W.alloc (.cells Z.toArray 66)).setRow W.heap.size (s.ws.get x).cells.toArray) := ⟨hi.at'.below b1, (b1.block _ (lt_block hi.box)).trans hi.box, hi.kept.trans k1⟩
    generalize hT : Array.foldl _ _ (Array.zip _ _) = T
    have hT2 : T = #[.pointer (some ⟨d, 0, none⟩), .slice pa bs.length pc, .pointer (some ⟨w.heap.size, 0, none⟩), undef, undef, undef, undef, undef, .pointer (some ⟨d, 0, none⟩), .pointer (some ⟨d, 0, none⟩), .pointer (some ⟨d, 1, none⟩), .slice ad s.ws.length cp, .func (.func 26) #[] #[.pointer (some ⟨w.heap.size + 1, 0, none⟩)], .int .i64 ((x.val : Nat) : Int), .agg (s.ws.get x).cells.toArray, undef, undef, undef, undef, undef, undef, undef, undef, undef, undef, undef, undef, undef, undef, undef, undef, undef, undef, undef, undef, undef, undef, undef, undef, undef, undef, undef, undef, undef, undef, undef, undef, undef, undef, undef, undef, undef, undef, undef, undef, undef, undef, undef, undef, undef, undef, undef, undef] := by
      rw [← hT]
      kernel_rfl
    clear hT
    subst hT2
    dsimp only at hK ⊢
    refine wpIn_region_lit (wpList_in _ _ _ (by kernel_rfl) l _ ?_ (by rintro ⟨_, _, h⟩; exact h))
    refine wpList_run rfl _ _ (run_alloc_op 66 rfl Z hzv W) ?_
    refine wpList_store_row rfl 66 (.tmp 5) (.tmp 14) rfl W.heap.size (s.ws.get x).cells.toArray rfl rfl 66 Z.toArray (heap_alloc_new _ _) (info_wr _ (by rw [List.size_toArray, hcl])) (by rw [List.size_toArray, List.size_toArray, hz129, hcl]) (all_oneCell_toArray (one_wr _)) ?_
    exact hK _ _ ⟨b1.size, fun k o _ hk _ => (b1.block k (lt_block hk)).trans hk⟩ k1 m1 ⟨W.heap.size, hWle, s1.new, rfl⟩
  case body =>
    rintro l pre x a' W hl hrec hi ⟨G, hG1, hG2, rfl⟩ hlen
    obtain ⟨r, hr⟩ : ∃ r, r = s.ws.get x := ⟨_, rfl⟩
    have hwok := H.out.ok.wok _ (List.get_mem s.ws x)
    rw [← hr] at hG2 hwok ⊢
    have hmap : undoL s.S ((pre ++ [x]).map s.ws.get) = (undoL s.S (pre.map s.ws.get)).set r.place r.before := by rw [List.map_append, List.map_singleton, undoL_snoc, hr]
    have hlenU : (undoL s.S (pre.map s.ws.get)).length = s.S.length := length_undoL _ _
    have hS8 := H.out.ok.lim
    have Hmap := Lib.hid hmap
    generalize undoL s.S (pre.map s.ws.get) = U at *
    obtain ⟨c0, -⟩ := hi.at'.cell
    dsimp only at c0
    rw [hlenU] at c0
    have cb : W.cell? ⟨w.heap.size, 0, none⟩ = some (.pointer (some ⟨d, 0, none⟩)) := by rw [cell_block hi.box]; rfl
    have cG : W.cell? ⟨G, 0, none⟩ = some (.int .i64 (r.place : Int)) := by rw [cell_block hG2]; rfl
    have lb : w.heap.size < W.heap.size := lt_block hi.box
    have ld : d < W.heap.size := hi.at'.lt.1
    have lG : G < W.heap.size := lt_block hG2
    have hb64 : (r.before.map B).length = 64 := by simpa using hwok.2.1
    have i2 : (r.place : Int) < (s.S.length : Int) := by omega
    have HG := Lib.hid hG2
    have HI := Lib.hid hi
    have HW := Lib.hid hwok
    have Hb64 := Lib.hid hb64
    have HLU := Lib.hid hlenU
    clear hG2 hi hwok hb64 hlenU hmap hr hrec hl
    dsimp only
    refine wpIn_block ?_
    refine wpIn_region_of l _ (by kernel_rfl) (by kernel_rfl) (by rintro ⟨_, _, h⟩; exact h) ?_
    refine wpAny_fresh 8 [.calm, .calm, .calm, .calm, .calm, .calm, .calm, .calm] (fun _ => .cells #[] 0) (fun _ => .cells #[] 0) (fun _ _ => undef) (by kernel_rfl) (by kernel_rfl) ?_
    intro R hR
    have hne := hR.nonempty
    simp only [List.take_succ_cons, List.take_zero, List.drop_succ_cons, List.drop_zero, calmL]
    have cm0 : ∀ m : BlR W R, m.wr.cell? ⟨d, 0, none⟩ = some (.slice (some ⟨gs, 0, none⟩) s.S.length s.S.length) := fun m => by rw [m.below.cell (by exact ld)]; exact c0
    have cm1 : ∀ m : BlR W R, m.wr.cell? ⟨w.heap.size, 0, none⟩ = some (.pointer (some ⟨d, 0, none⟩)) := fun m => by rw [m.below.cell (by exact lb)]; exact cb
    have cm2 : ∀ m : BlR W R, m.wr.cell? ⟨G, 0, none⟩ = some (.int .i64 (r.place : Int)) := fun m => by rw [m.below.cell (by exact lG)]; exact cG
    iterate 7 (go_big_quiet_step (fail))
    refine wpQuiet_load_mid rfl 64 (.tmp 21) rfl G 1 (by first | rfl | (simp [Act.eval]; omega)) (r.before.map B) _ (fun w' ⟨m, hw'⟩ => hw' ▸ range_below m.below (range_before HG.out) lG) Try.underlying64 rfl (info_sec _ Hb64.out) ?_
    simp only [Act.put, List.setIfInBounds_toArray, List.set_cons_succ, List.set_cons_zero]
    refine wpQuiet_nil ?_
    refine ⟨by simp only [obF], ?_⟩
    intro γ w4 hf4
    clear cm0 cm1 cm2 hR hne R
    simp only [putF]
    have hb4 := hf4.below
    clear hf4
    have D4 := HI.out.at'.below hb4
    have hpl : r.place < U.length := by rw [HLU.out]; exact HW.out.1
    have HT := Lib.hid (there_sec D4 r.place hpl)
    have HP := Lib.hid (D4.put r.place hpl r.before HW.out.2.1)
    have HB4 := Lib.hid hb4
    have HX4 := Lib.hid ((hb4.block _ lb).trans HI.out.box)
    clear D4 hb4
    go_wp2_with (refine wpList_store_mid rfl 64 (.tmp 23) (.tmp 22) rfl gs (r.place * 64) (r.before.map B).toArray rfl rfl (by simpa [Hb64.out] using HT.out) (info_sec _ (by simp [Hb64.out])) (all_oneCell_toArray (one_bytes _)) ?_)
    obtain ⟨D5, K5⟩ := HP.out
    have hWle := HI.out.kept.size
    have k4 : KeptB W0.heap.size gs W w4 := .of_below (HB4.out.mono hWle)
    have k5 : KeptB W0.heap.size gs w4 (w4.setCells gs (r.place * 64) (r.before.map B)) := .of_kept1 K5 (by have := HB4.out.size; omega)
    show KeepsFrom W0.heap.size W (w4.setCells gs (r.place * 64) (r.before.map B)) ∧ KeptB W0.heap.size gs W (w4.setCells gs (r.place * 64) (r.before.map B)) ∧ Mid w W0 N d gs v s (undoL s.S (List.map s.ws.get (pre ++ [x]))) (w4.setCells gs (r.place * 64) (r.before.map B))
    refine ⟨⟨Nat.le_trans HB4.out.size K5.size, fun k o _ hk ho => ?_⟩, k4.trans k5, ?_⟩
    · have hk4 := (HB4.out.block k (lt_block hk)).trans hk
      refine (K5.block k (lt_block hk4) (fun e => ?_)).trans hk4
      subst e
      have := HI.out.at'.sec
      rw [hk] at this
      cases this
      cases ho
    · rw [Hmap.out]
      exact ⟨D5, (K5.block _ (lt_block HX4.out) (by omega)).trans HX4.out, HI.out.kept.trans (k4.trans k5)⟩
  case done =>
    rintro D xs W hD hS hM hK
    rw [hS] at hM
    have hUl : (undoL s.S s.ws.reverse).length = s.S.length := length_undoL _ _
    obtain ⟨U, hU⟩ : ∃ U, undoL s.S s.ws.reverse = U := ⟨_, rfl⟩
    rw [hU] at hM hUl
    have cb : W.cell? ⟨w.heap.size, 0, none⟩ = some (.pointer (some ⟨d, 0, none⟩)) := by rw [cell_block hM.box]; rfl
    obtain ⟨-, c1, -⟩ := hM.at'.cell
    rw [Hv.out] at c1
    have HM2 := Lib.hid hM
    have HK := Lib.hid hK
    have HU := Lib.hid hU
    have HUl := Lib.hid hUl
    have hwl := Lib.hid (show s.ws.length ≤ 1000 from hws)
    clear hS hM hK hU hUl HM HS
    gi_wp2
    clear cb c1
    refine wpIn_wide.2 ?_
    go_loopw [29] (fun i wr => ∃ k : Nat, k ≤ s.ws.length ∧ i = .int .i64 k ∧ Mid w W0 N d gs v s (redoL bs (s.ws.take k) U) wr ∧ wr.heap[D]? = some (.deferred (some []))) (fun i _ => s.ws.length - (intOf i).toNat)
    case atStart => exact ⟨0, by omega, rfl, by simpa [redoL] using HM2.out, HK.out⟩
    case round =>
      obtain ⟨k, hk, rfl, hM, hKD⟩ := hrel
      by_cases hlt : k < s.ws.length
      · obtain ⟨g, hve, hgo⟩ : ∃ g, ad = some ⟨g, 0, none⟩ ∧ wr.rangeAt g (k * 129) (s.ws[k]).cells := by
          rcases hM.at'.wait.2 with ⟨_, hn⟩ | ⟨g, cap, cur, hve, _⟩
          · have hn' : s.ws.length = 0 := hn
            omega
          · have e := Hv.out.symm.trans hve
            injection e with e1 e2 e3
            refine ⟨g, e1, own_range (N := N) (cap := cap) ?_ Hwf.out k hlt⟩
            have := hM.at'.wait
            rw [hve] at this
            exact this
        subst hve
        have hcl := length_cells s.ws[k] (Hwf.out _ (List.getElem_mem hlt)).1 (Hwf.out _ (List.getElem_mem hlt)).2
        have hwok := H.out.ok.wok _ (List.getElem_mem hlt)
        have hsnoc := redoL_snoc bs s.ws U k hlt
        have hVl : (redoL bs (s.ws.take k) U).length = s.S.length := by rw [length_redoL, HUl.out]
        generalize s.ws[k] = r at *
        generalize redoL bs (s.ws.take k) U = V at *
        have hzv := zero_wr'
        have hz129 : z129.length = 129 := rfl
        generalize z129 = Z at *
        have hd1 : decide ((k : Int) < (s.ws.length : Int)) = true := by simp; omega
        have s1 := set1_setRow (w := wr.alloc (.cells Z.toArray 66)) (G := wr.heap.size) (cells := r.cells.toArray) (heap_alloc_new _ _)
        have b1 : Below wr.heap.size wr ((wr.alloc (.cells Z.toArray 66)).setRow wr.heap.size r.cells.toArray) := s1.below ((Below.refl _ _).alloc (Nat.le_refl _) _) (Nat.le_refl _)
        have HB1 := Lib.hid b1
        have HS1 := Lib.hid s1.new
        have HgO := Lib.hid hgo
        have Hcl := Lib.hid hcl
        have HW := Lib.hid hwok
        have HSn := Lib.hid hsnoc
        have HVl := Lib.hid hVl
        have Hz := Lib.hid hz129
        have HMr := Lib.hid hM
        have HKD := Lib.hid hKD
        have hle0 : W0.heap.size ≤ wr.heap.size := hM.kept.size
        have hwlt : s.ws.length ≤ 1000 := hws
        clear s1 b1 hgo hcl hwok hsnoc hVl hz129 hM hKD HM2 HK
        by_cases hp : k < bs.length
        · have hpb : bs ≠ [] := by intro e; rw [e] at hp; cases hp
          obtain rfl := Hpa.out hpb
          have hpgl : pg < w.heap.size := block_lt_of_cell (Hpc.out k hp)
          have hpgf : pg ≠ gs := fun e => Hpf.out hpb (.inr (.inl e))
          have cpk : ((wr.alloc (.cells Z.toArray 66)).setRow wr.heap.size r.cells.toArray).cell? ⟨pg, po + k, none⟩ = some (.bool bs[k]) := by
            rw [HB1.out.cell (by show pg < _; omega)]
            rw [World.cell?_of_block (w := W0) (a := ⟨pg, po + k, none⟩) (HMr.out.kept.block pg (by omega) hpgf), HB0.out.cell (by exact hpgl)]
            exact Hpc.out k hp
          have hd2 : decide ((k : Int) < (bs.length : Int)) = true := by simp; omega
          have hd3 : decide (k < bs.length) = true := by simp; omega
          have hgd : bs.getD k false = bs[k] := by simp [List.getD, hp]
          rw [hgd] at HSn
          generalize bs[k] = bk at *
          cases bk with
          | false =>
            go_wp2_with (first
              | (refine wpList_load_mid rfl 66 (.tmp 32) rfl g (k * 129) rfl r.cells _ HgO.out Try.underlying66 rfl (info_wr _ Hcl.out) ?_)
              | (refine wpList_store_row rfl 66 (.tmp 7) (.tmp 33) rfl wr.heap.size r.cells.toArray rfl rfl 66 Z.toArray (heap_alloc_new _ _) (info_wr _ (by rw [List.size_toArray, Hcl.out])) (by rw [List.size_toArray, List.size_toArray, Hz.out, Hcl.out]) (all_oneCell_toArray (one_wr _)) ?_))
            go_roundw
            case rel => exact ⟨k + 1, by omega, by go_num, by rw [HSn.out]; exact HMr.out.below HB1.out, (HB1.out.block D (lt_block HKD.out)).trans HKD.out⟩
            case measure => simp [intOf]; omega
          | true =>
            go_wp2_with (first
              | (refine wpList_load_mid rfl 66 (.tmp 32) rfl g (k * 129) rfl r.cells _ HgO.out Try.underlying66 rfl (info_wr _ Hcl.out) ?_)
              | (refine wpList_store_row rfl 66 (.tmp 7) (.tmp 33) rfl wr.heap.size r.cells.toArray rfl rfl 66 Z.toArray (heap_alloc_new _ _) (info_wr _ (by rw [List.size_toArray, Hcl.out])) (by rw [List.size_toArray, List.size_toArray, Hz.out, Hcl.out]) (all_oneCell_toArray (one_wr _)) ?_))
            generalize World.setRow _ _ _ = W6 at *
            have HM6 := Lib.hid (HMr.out.below HB1.out)
            have HD6 := Lib.hid ((HB1.out.block D (lt_block HKD.out)).trans HKD.out)
            have lG : wr.heap.size < W6.heap.size := lt_block HS1.out
            obtain ⟨c0, -⟩ := HM6.out.at'.cell
            dsimp only at c0
            rw [HVl.out] at c0
            have cb : W6.cell? ⟨w.heap.size, 0, none⟩ = some (.pointer (some ⟨d, 0, none⟩)) := by rw [cell_block HM6.out.box]; rfl
            have cG : W6.cell? ⟨wr.heap.size, 0, none⟩ = some (.int .i64 (r.place : Int)) := by rw [cell_block HS1.out]; rfl
            have lb : w.heap.size < W6.heap.size := lt_block HM6.out.box
            have ld : d < W6.heap.size := HM6.out.at'.lt.1
            have ha64 : (r.after.map B).length = 64 := by simpa using HW.out.2.2
            have i2 : (r.place : Int) < (s.S.length : Int) := by have := HW.out.1; omega
            have Ha64 := Lib.hid ha64
            have hS8 := H.out.ok.lim
            clear ha64
            refine wp_region_fresh 8 [.calm, .calm, .calm, .calm, .calm, .calm, .calm, .calm] (fun _ => .cells #[] 0) (fun _ => .cells #[] 0) (fun _ _ => undef) (by kernel_rfl) (by kernel_rfl) (by kernel_rfl) ?_
            intro R hR
            have hne := hR.nonempty
            simp only [List.take_succ_cons, List.take_zero, List.drop_succ_cons, List.drop_zero, calmL]
            have cm0 : ∀ m : BlR W6 R, m.wr.cell? ⟨d, 0, none⟩ = some (.slice (some ⟨gs, 0, none⟩) s.S.length s.S.length) := fun m => by rw [m.below.cell (by exact ld)]; exact c0
            have cm1 : ∀ m : BlR W6 R, m.wr.cell? ⟨w.heap.size, 0, none⟩ = some (.pointer (some ⟨d, 0, none⟩)) := fun m => by rw [m.below.cell (by exact lb)]; exact cb
            have cm2 : ∀ m : BlR W6 R, m.wr.cell? ⟨wr.heap.size, 0, none⟩ = some (.int .i64 (r.place : Int)) := fun m => by rw [m.below.cell (by exact lG)]; exact cG
            iterate 7 (go_big_quiet_step (fail))
            refine wpQuiet_load_mid rfl 64 (.tmp 50) rfl wr.heap.size 65 (by first | rfl | (simp [Act.eval]; omega)) (r.after.map B) _ (fun w' ⟨m, hw'⟩ => hw' ▸ range_below m.below (range_after HS1.out HW.out.2.1) lG) Try.underlying64 rfl (info_sec _ Ha64.out) ?_
            simp only [Act.put, List.setIfInBounds_toArray, List.set_cons_succ, List.set_cons_zero]
            refine wpQuiet_nil ?_
            refine ⟨by simp only [obF], ?_⟩
            intro γ w7 hf7
            clear cm0 cm1 cm2 hR hne R
            simp only [putF]
            have hb7 := hf7.below
            clear hf7
            have M7 := HM6.out.below hb7
            have hpl : r.place < V.length := by rw [HVl.out]; exact HW.out.1
            have HT := Lib.hid (there_sec M7.at' r.place hpl)
            have hgsD : gs ≠ D := by omega
            have hgsb : gs ≠ w.heap.size := by omega
            have HP := Lib.hid (M7.put (by omega) r.place hpl r.after HW.out.2.2)
            have HD7 := Lib.hid ((hb7.block D (lt_block HD6.out)).trans HD6.out)
            clear M7 hb7 c0 cb cG
            go_wp2_with (refine wpList_store_mid rfl 64 (.tmp 52) (.tmp 51) rfl gs (r.place * 64) (r.after.map B).toArray rfl rfl (by simpa [Ha64.out] using HT.out) (info_sec _ (by simp [Ha64.out])) (all_oneCell_toArray (one_bytes _)) ?_)
            go_roundw
            case rel => exact ⟨k + 1, by omega, by go_num, by rw [HSn.out]; exact HP.out.1, (HP.out.2.block D (lt_block HD7.out) (Ne.symm hgsD)).trans HD7.out⟩
            case measure => simp [intOf]; omega
        · have hd2 : decide ((k : Int) < (bs.length : Int)) = false := by simp; omega
          have hd3 : decide (k < bs.length) = false := by simp; omega
          have hgd : bs.getD k false = false := by simp [List.getD, hp]
          rw [hgd] at HSn
          go_wp2_with (first
              | (refine wpList_load_mid rfl 66 (.tmp 32) rfl g (k * 129) rfl r.cells _ HgO.out Try.underlying66 rfl (info_wr _ Hcl.out) ?_)
              | (refine wpList_store_row rfl 66 (.tmp 7) (.tmp 33) rfl wr.heap.size r.cells.toArray rfl rfl 66 Z.toArray (heap_alloc_new _ _) (info_wr _ (by rw [List.size_toArray, Hcl.out])) (by rw [List.size_toArray, List.size_toArray, Hz.out, Hcl.out]) (all_oneCell_toArray (one_wr _)) ?_))
          go_roundw
          case rel => exact ⟨k + 1, by omega, by go_num, by rw [HSn.out]; exact HMr.out.below HB1.out, (HB1.out.block D (lt_block HKD.out)).trans HKD.out⟩
          case measure => simp [intOf]; omega
      · obtain rfl : k = s.ws.length := by omega
        rw [List.take_length] at hM
        have cb : wr.cell? ⟨w.heap.size, 0, none⟩ = some (.pointer (some ⟨d, 0, none⟩)) := by rw [cell_block hM.box]; rfl
        obtain ⟨c0, c1, c2, c3⟩ := hM.at'.cell
        have f1 := hM.at'.frozen 1
        have f2 := hM.at'.frozen 2
        have f3 := hM.at'.frozen 3
        have hnd : ⟨w.heap.size, 0, none⟩ ≠ (⟨d, 1, none⟩ : Addr) := fun e => by injection e; omega
        have HMr := Lib.hid hM
        have HKD := Lib.hid hKD
        dsimp only at c2 c3
        clear hM hKD c0 HM2 HK
        go_wp2_with fail
        gi_wp2
        have k1 : Kept1 d wr (((wr.setCell ⟨d, 1, none⟩ (.slice none 0 0)).setCell ⟨d, 2, none⟩ (.int .i64 0)).setCell ⟨d, 3, none⟩ (.bool false)) := (((Kept1.refl d wr).setCell ⟨d, 1, none⟩ (.inl rfl) _).setCell ⟨d, 2, none⟩ (.inl rfl) _).setCell ⟨d, 3, none⟩ (.inl rfl) _
        have D1 := HMr.out.at'.turn (v' := .slice none 0 0) (s' := ⟨redoL bs s.ws U, [], 0, false⟩) k1 (heap_set (heap_set (heap_set HMr.out.at'.blk 1 _) 2 _) 3 _) rfl (.inr ⟨rfl, rfl⟩)
        have hcr : s.crash bs = ⟨redoL bs s.ws U, [], 0, false⟩ := by unfold DSt.crash; rw [HU.out]
        rw [← hcr] at D1
        clear hcr
        have hKD1 := (k1.block D (lt_block HKD.out) (by omega)).trans HKD.out
        generalize World.setCell (World.setCell (World.setCell wr _ _) _ _) _ _ = w8 at *
        refine ⟨by simp, .inl ⟨_, _, rfl, run_takeDeferred hKD1, ?_⟩⟩
        have hput : ∀ k, k ≠ D → (w8.putObj D (.deferred none)).heap[k]? = w8.heap[k]? := fun k hk => World.putObj_heap_other hk
        refine ⟨_, results_none rfl _ _ _, rfl, D1.same fun k hk => hput k ?_, ⟨?_, ?_, ?_, ?_, fun k hk hF => ?_⟩⟩
        · rcases hk with hk | hk | hk
          · omega
          · omega
          · cases hk
        · exact k1.os.trans (HMr.out.kept.os.trans HB0.out.os)
        · exact k1.tape.trans (HMr.out.kept.tape.trans HB0.out.tape)
        · exact k1.output.trans (HMr.out.kept.output.trans HB0.out.output)
        · have h1 := HB0.out.size
          have h2 := HMr.out.kept.size
          have h3 := k1.size
          have h4 := (grownBy_putObj' w8 D (.deferred none)).size
          omega
        · have h2 := HMr.out.kept.size
          rw [hput k (by omega), k1.block k (by omega) (fun e => hF (.inl e)), HMr.out.kept.block k (by omega) (fun e => hF (.inr (.inl e))), HB0.out.block k hk]
  case stop =>
    rintro D c pre W _ _ h _
    exact h.elim
end Go.Proofs.Ytammnjfccjfbhaa
