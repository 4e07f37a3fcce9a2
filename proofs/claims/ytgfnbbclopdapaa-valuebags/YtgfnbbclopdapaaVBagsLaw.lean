/- P2.1, the bags: the law. -/
import Derived.Test.YtgfnbbclopdapaaVBagsMath
import Derived.Test.YtgfnbbclopdapaaVAwake
import Derived.Test.YtgfnbbclopdapaaVRefF
namespace Go.Proofs.Ytgfnbbclopdapaa
open Go.RowKit

theorem own_empty (w : World) : (w.alloc (.cells #[] 24 (0, 0))).ownsRow w.heap.size 24 4 (.slice (some ⟨w.heap.size, 0, none⟩) 0 0) ([] : List Val).length (cellsL []) :=
  ⟨rfl, .inr ⟨w.heap.size, 0, #[], rfl, Nat.le_refl _, heap_alloc_new _ _, Nat.le_refl _, Nat.zero_le _, rfl, rfl⟩⟩
theorem same_self (x : Val) (lx : List Val) (hlen : lx.length = x.n) (hn : ∀ y ∈ lx, y.n = 0) : sameB x lx x lx = true := by
  unfold sameB headS
  simp only [beq_self_eq_true, Bool.true_and, List.all_eq_true, List.mem_range]
  intro j hj
  have : lx[j]!.n = 0 := by rw [getElem!_pos lx j (by omega)]; exact hn _ (List.getElem_mem _)
  simp only [sameE, this]
  simp

set_option maxRecDepth 100000 in
set_option maxHeartbeats 1000000 in
theorem bags_big (w : World) (ps : List (Val × List Val)) (ad : Option Addr) (g o cp : Nat) (hl : ListAt w ad g o (ps.map (·.1))) (hf : ∀ p ∈ ps, Full w p.1 p.2) (hm : ps.length ≤ maxLen) (hbig : ((ps.take 100).all (fun p => small p.1 p.2) && decide ((ps.length : Int) ≤ 30)) = false) :
    Calls Try.prog 4 #[.slice ad ps.length cp] w fun e w' => e = .returned (.bool true) ∧ Below w.heap.size w w' := by
  have HF : Hid (∀ W, Below w.heap.size w W → Calls Try.prog 16 #[.slice ad ps.length cp, .int .i64 30] W fun e w' => e = .returned (.bool false) ∧ W = w') := Lib.hid (by
    intro W hW; rw [← hbig]; exact few_any W ps ad g o cp 30 (hl.below hW) (fun p hp => (hf p hp).below hW) hm)
  clear hl hf hbig hm
  go_enter Try.func4, Try.ntmps4
  go_wp2_with fail
  refine (awake_any w).mono ?_
  rintro e w1 ⟨rfl, hb⟩
  have HB1 := Lib.hid hb
  clear hb
  go_wp2_with fail
  refine (HF.out _ HB1.out).mono ?_
  rintro e w2 ⟨rfl, rfl⟩
  go_wp2_with fail
  refine (awake_any _).mono ?_
  rintro e w3 ⟨rfl, hb⟩
  have HB3 := Lib.hid (HB1.out.trans (hb.mono HB1.out.size))
  clear hb HB1
  go_wp2_with fail
  go_ret
  exact ⟨rfl, HB3.out⟩

set_option maxRecDepth 100000 in
set_option maxHeartbeats 4000000 in
theorem bags_small (w : World) (ps : List (Val × List Val)) (ad : Option Addr) (g o cp : Nat) (hl : ListAt w ad g o (ps.map (·.1))) (hsrc : Src w (.slice ad ps.length cp) (ps.map (·.1))) (hf : ∀ p ∈ ps, Full w p.1 p.2) (hm : ps.length ≤ 30) (hsm : ∀ p ∈ ps, small p.1 p.2 = true) :
    Calls Try.prog 4 #[.slice ad ps.length cp] w fun e w' => e = .returned (.bool true) ∧ Below w.heap.size w w' := by
  have HF : Hid (∀ W, Below w.heap.size w W → Calls Try.prog 16 #[.slice ad ps.length cp, .int .i64 30] W fun e w' => e = .returned (.bool true) ∧ W = w') := Lib.hid (by
    intro W hW
    have := few_any W ps ad g o cp 30 (hl.below hW) (fun p hp => (hf p hp).below hW) (by unfold maxLen; omega)
    have e : ((ps.take 100).all (fun p => small p.1 p.2) && decide ((ps.length : Int) ≤ 30)) = true := by
      rw [Bool.and_eq_true, List.all_eq_true]
      exact ⟨fun p hp => hsm p (List.mem_of_mem_take hp), decide_eq_true (by omega)⟩
    rw [e] at this
    exact this)
  obtain ⟨l, hL⟩ : ∃ l, ps.map (·.1) = l := ⟨_, rfl⟩
  have hlen : ps.length = l.length := by rw [← hL]; simp
  rw [hlen] at HF hm hsrc ⊢
  rw [hL] at hl hsrc
  obtain ⟨F, hF⟩ : ∃ F : Nat → Bool, ∀ j, (hj : j < ps.length) → F j = ps[j].1.formed ps[j].2 := ⟨fun j => if h : j < ps.length then ps[j].1.formed ps[j].2 else false, fun j hj => by simp [hj]⟩
  have hlj : ∀ j, (hj : j < ps.length) → l[j]! = ps[j].1 := fun j hj => by
    rw [getElem!_pos l j (by omega)]; simp [← hL]
  have SA : Hid (∀ j, j < l.length → ∀ W, Below w.heap.size w W → Calls Try.prog 15 #[V l[j]!.k l[j]!.i l[j]!.s l[j]!.a l[j]!.n l[j]!.c, V l[j]!.k l[j]!.i l[j]!.s l[j]!.a l[j]!.n l[j]!.c] W fun e w' => e = .returned (.bool true) ∧ Below W.heap.size W w') := Lib.hid (by
    intro j hj W hW
    have hj' : j < ps.length := by omega
    have hmem := List.getElem_mem hj'
    have hfu := hf _ hmem
    have := same_any W _ _ _ _ (hfu.below hW) (hfu.below hW)
    rw [same_self _ _ hfu.len (fun y hy => by
      have h1 := hsm _ hmem
      unfold small at h1
      rw [Bool.and_eq_true, List.all_eq_true] at h1
      have h2 := h1.2 y hy
      simp [smallE] at h2
      omega)] at this
    rw [hlj j hj']
    exact this)
  have RF : Hid (∀ j, j < l.length → ∀ W, Below w.heap.size w W → Calls Try.prog 12 #[V l[j]!.k l[j]!.i l[j]!.s l[j]!.a l[j]!.n l[j]!.c] W fun e w' => e = .returned (.bool (F j)) ∧ Below W.heap.size W w') := Lib.hid (by
    intro j hj W hW
    have hj' : j < ps.length := by omega
    rw [hlj j hj', hF j hj']
    exact refFormed_any W _ _ ((hf _ (List.getElem_mem hj')).below hW))
  have BG : Hid (∀ W, Below w.heap.size w W → Calls Try.prog 17 #[.slice ad l.length cp] W fun e w' => ∃ y ly, e = .returned (.tuple #[y.v, .int .i64 (bagE l F)]) ∧ BagIs w' l (bagE l F) y ly ∧ Below W.heap.size W w') := Lib.hid (by
    intro W hW
    refine bag_any W l ad g o cp F (hl.below hW) (by omega) fun j hj => ⟨fun W' hW' => ?_⟩
    have hj' : j < ps.length := by omega
    have e : l[j] = ps[j].1 := by rw [← hlj j hj', getElem!_pos l j hj]
    rw [e, hF j hj']
    exact formed_any W' _ _ ((hf _ (List.getElem_mem hj')).below (hW.trans (hW'.mono hW.size))))
  have AL : Hid (∀ j, j < l.length → F j = true → ¬ l[j]!.k = 5 → l[j]!.alone = true) := Lib.hid (by
    intro j hj hj1 hk
    have hj' : j < ps.length := by omega
    rw [hF j hj'] at hj1
    rw [hlj j hj'] at hk ⊢
    unfold Val.formed at hj1
    rwa [if_neg (by simpa using hk)] at hj1)
  have HL := Lib.hid hl
  have HSR := Lib.hid hsrc
  clear hl hf hsrc hsm hlj hF hL hlen
  go_enter Try.func4, Try.ntmps4
  go_wp2_with fail
  refine (awake_any w).mono ?_
  rintro e w1 ⟨rfl, hb⟩
  have HB1 := Lib.hid hb
  clear hb
  go_wp2_with fail
  refine (HF.out _ HB1.out).mono ?_
  rintro e w2 ⟨rfl, rfl⟩
  clear HF
  have hs1 := HB1.out.size
  go_wp2_with (at_builtin; refine append_vals rfl (.tmp 18) (.tmp 19) rfl w1.heap.size [] l _ rfl ⟨own_empty w1⟩ _ rfl (HSR.out.below (HB1.out.trans ((Below.refl _ _).alloc HB1.out.size _))) (by simp; omega) (by simp) l rfl ?_)
  intro vw w2 hown hb2
  have HB2 : Hid (Below w.heap.size w w2) := Lib.hid (HB1.out.trans ((((Below.refl _ _).alloc (Nat.le_refl _) _).trans hb2).mono HB1.out.size))
  obtain ⟨va, vg, vc, rfl, hla, hvg⟩ := own_list hown.row (fun x hx => HL.out.size x hx)
  have HLA := Lib.hid hla
  clear hown hb2 hla hvg HB1 hs1 HSR
  have hs2 := HB2.out.size
  go_wp2_with fail
  refine (BG.out _ HB2.out).mono ?_
  rintro e w3 ⟨y, ly, rfl, hbag, hb3⟩
  have HB3 := Lib.hid (HB2.out.trans (hb3.mono HB2.out.size))
  have HLA3 := Lib.hid (HLA.out.below hb3)
  have HBG := Lib.hid hbag
  clear hb3 hbag HB2 HLA hs2 BG
  unfold Val.v
  go_wp2_with fail
  generalize hW3 : World.alloc _ _ = W3
  obtain ⟨b3, hb3⟩ : ∃ b, w3.heap.size = b := ⟨_, rfl⟩
  have hB3 : Below w3.heap.size w3 W3 := by rw [← hW3]; exact (Below.refl _ _).alloc (Nat.le_refl _) _
  have hy3 : W3.heap[b3]? = some (.cells #[.int .i64 y.k, .int .i64 y.i, .string y.s, .slice y.a y.n y.c] 24 (0, 0)) := by rw [← hW3, ← hb3]; exact heap_alloc_new _ _
  have hs3 := HB3.out.size
  have HBW := Lib.hid (HB3.out.trans (hB3.mono HB3.out.size))
  have HLA4 := Lib.hid (HLA3.out.below hB3)
  have HBG4 : Hid (BagIs W3 l (bagE l F) y ly) := Lib.hid ⟨HBG.out.full.below hB3, HBG.out.good, HBG.out.bad⟩
  have HY := Lib.hid hy3
  rw [hb3]
  have hlt3 : b3 < W3.heap.size := lt_block hy3
  have hwb : w.heap.size ≤ b3 := by omega
  clear hW3 hb3 hB3 hy3 HB3 HLA3 HBG hs3
  go_loopw [6] (fun i wr => ∃ k : Nat, k ≤ l.length ∧ i = .int .i64 k ∧ Hid (Below W3.heap.size W3 wr)) (fun i _ => l.length - (intOf i).toNat)
  case atStart => exact ⟨0, by omega, rfl, Lib.hid (Below.refl _ _)⟩
  case round =>
    obtain ⟨k, hk, rfl, HB⟩ := hrel
    have hsr := HB.out.size
    have HBr := Lib.hid (HBW.out.trans (HB.out.mono HBW.out.size))
    by_cases hlt : k < l.length
    · have hne : l ≠ [] := by intro e; subst e; simp at hlt
      obtain rfl := HL.out.at' hne
      obtain rfl := HLA4.out.at' hne
      have hp := fun m : Bl wr => HL.out.cells HBr.out k hlt m
      have hq := fun m : Bl wr => HLA4.out.cells HB.out k hlt m
      have T := Lib.hid (SA.out k hlt)
      generalize l[k]! = x at *
      simp only [Nat.zero_add] at hq
      have p0 := fun m : Bl wr => (hp m).1
      have p1 := fun m : Bl wr => (hp m).2.1
      have p2 := fun m : Bl wr => (hp m).2.2.1
      have p3 := fun m : Bl wr => (hp m).2.2.2
      have q0 := fun m : Bl wr => (hq m).1
      have q1 := fun m : Bl wr => (hq m).2.1
      have q2 := fun m : Bl wr => (hq m).2.2.1
      have q3 := fun m : Bl wr => (hq m).2.2.2
      clear hp hq
      unfold V at T
      go_wp2_with fail
      refine wp_region_quietB (by kernel_rfl) (by kernel_rfl) ?_
      iterate 10 (go_big_quiet_step ((go_at_call 15; with_reducible exact Calls.quiet_b (T.out _ (HBr.out.trans ((Bl.below _).mono HBr.out.size))))))
      refine wpQuiet_nil ?_
      intro m
      have HBM := Lib.hid (HB.out.trans (m.below.mono HB.out.size))
      clear p0 p1 p2 p3 q0 q1 q2 q3 T
      go_wp2_with fail
      go_roundw
      case rel => exact ⟨k + 1, by omega, by go_num, HBM⟩
      case measure => simp [intOf]; omega
    · obtain rfl : k = l.length := by omega
      clear SA HLA4 hsr hlt hk
      go_wp2_with fail
      generalize wr = w4 at *
      have HB4 := HB
      clear HB
      go_loopw [7] (fun i wr => ∃ k : Nat, k ≤ l.length ∧ i = .int .i64 k ∧ Hid (Below W3.heap.size W3 wr) ∧ Hid (∀ j, j < k → F j = true)) (fun i _ => l.length - (intOf i).toNat)
      case atStart => exact ⟨0, by omega, rfl, HB4, Lib.hid (fun j hj => absurd hj (by omega))⟩
      case round =>
        clear HBr HB4
        obtain ⟨k, hk, rfl, HB, HFK⟩ := hrel
        have hsr := HB.out.size
        have HBr := Lib.hid (HBW.out.trans (HB.out.mono HBW.out.size))
        by_cases hlt : k < l.length
        · have hne : l ≠ [] := by intro e; subst e; simp at hlt
          obtain rfl := HL.out.at' hne
          obtain ⟨p0, p1, p2, p3⟩ := HL.out.cells HBr.out k hlt ⟨wr, Below.refl _ _⟩
          have T := Lib.hid (RF.out k hlt)
          dsimp only at p0 p1 p2 p3
          generalize l[k]! = x at *
          unfold V at T
          go_wp2_with fail
          refine (T.out _ HBr.out).mono ?_
          rintro e w5 ⟨rfl, hb5⟩
          have HB5 := Lib.hid (HB.out.trans (hb5.mono hsr))
          have HBr5 := Lib.hid (HBr.out.trans (hb5.mono HBr.out.size))
          clear hb5 p0 p1 p2 p3 T
          obtain ⟨f, hf⟩ : ∃ f, F k = f := ⟨_, rfl⟩
          rw [hf]
          have HF := Lib.hid hf
          clear hf
          cases f
          · obtain ⟨rfl, rfl⟩ := HBG4.out.bad (by rw [bag_arg hlt HF.out]; decide)
            have HE := Lib.hid (bag_arg hlt HF.out)
            rw [HE.out]
            obtain ⟨y0, y1, y2, y3⟩ := cells4 HY.out ⟨w5, HB5.out⟩
            dsimp only at y0 y1 y2 y3
            have hb35 : b3 < w5.heap.size := by have := HB5.out.size; omega
            have hz := same_any w5 ⟨0, 0, ⟨#[]⟩, none, 0, 0⟩ ⟨0, 0, ⟨#[]⟩, none, 0, 0⟩ [] [] (HBG4.out.full.below HB5.out) (HBG4.out.full.below HB5.out)
            rw [show sameB (⟨0, 0, ⟨#[]⟩, none, 0, 0⟩ : Val) [] ⟨0, 0, ⟨#[]⟩, none, 0, 0⟩ [] = true by simp [sameB, headS]] at hz
            have HZ := Lib.hid hz
            clear hz
            go_wp2_with fail
            refine HZ.out.mono ?_
            rintro e w6 ⟨rfl, hb6⟩
            have HB6 := Lib.hid (HBr5.out.trans (hb6.mono HBr5.out.size))
            clear hb6 y0 y1 y2 y3
            go_wp2_with fail
            go_ret
            exact ⟨rfl, HB6.out⟩
          · go_wp2_with fail
            go_roundw
            case rel => exact ⟨k + 1, by omega, by go_num, HB5, Lib.hid (fun j hj => by
              rcases Nat.lt_or_ge j k with h | h
              · exact HFK.out j h
              · obtain rfl : j = k := by omega
                exact HF.out)⟩
            case measure => simp [intOf]; omega
        · obtain rfl : k = l.length := by omega
          have HE := Lib.hid (refE_bag (l := l) (F := F) HFK.out)
          rw [HE.out] at HBG4 ⊢
          have ha : ∀ x ∈ l, ¬ x.k = 5 → x.alone = true := fun x hx hk => by
            obtain ⟨j, hj, rfl⟩ := List.mem_iff_getElem.1 hx
            have := AL.out j hj (HFK.out j hj)
            rw [getElem!_pos l j hj] at this
            exact this hk
          have HA := Lib.hid ha
          have RB := Lib.hid (refbag_any wr l ad g o cp (HL.out.below HBr.out) (by omega) ha)
          clear ha AL RF HFK HE hsr hlt hk
          go_wp2_with fail
          refine RB.out.mono ?_
          rintro e w5 ⟨y', ly', rfl, hr, hb5⟩
          have HB5 := Lib.hid (HB.out.trans (hb5.mono HB.out.size))
          have HBr5 := Lib.hid (HBr.out.trans (hb5.mono HBr.out.size))
          have HRB := Lib.hid hr
          clear hr hb5 RB HB HBr
          unfold Val.v
          obtain ⟨y0, y1, y2, y3⟩ := cells4 HY.out ⟨w5, HB5.out⟩
          dsimp only at y0 y1 y2 y3
          have hb35 : b3 < w5.heap.size := by have := HB5.out.size; omega
          go_wp2_with fail
          generalize hW6 : World.alloc _ _ = W6
          have hB6 : Below w5.heap.size w5 W6 := by rw [← hW6]; exact (Below.refl _ _).alloc (Nat.le_refl _) _
          have HB6 := Lib.hid (HB5.out.trans (hB6.mono HB5.out.size))
          have HBr6 := Lib.hid (HBr5.out.trans (hB6.mono HBr5.out.size))
          have hn : refE l = 0 → ∀ x ∈ l, x.n = 0 := fun h x hx => by
            obtain ⟨j, hj, rfl⟩ := List.mem_iff_getElem.1 hx
            have h1 := (refE_good h).1 j hj
            rw [getElem!_pos l j hj] at h1
            exact alone_n (HA.out _ hx (kindOk_parts h1).2.1)
          have hz := same_any W6 y y' ly ly' (HBG4.out.full.below HB6.out) (HRB.out.full.below hB6)
          rw [bags_same HBG4.out HRB.out hn] at hz
          have HZ := Lib.hid hz
          clear hz hn hW6 hB6 y0 y1 y2 y3 hb35 HB5 HBr5
          refine HZ.out.mono ?_
          rintro e w7 ⟨rfl, hb7⟩
          have HB7 := Lib.hid (HB6.out.trans (hb7.mono HB6.out.size))
          have HBr7 := Lib.hid (HBr6.out.trans (hb7.mono HBr6.out.size))
          clear hb7 HZ HB6 HBr6
          obtain ⟨y0, y1, y2, y3⟩ := cells4 HY.out ⟨w7, HB7.out⟩
          dsimp only at y0 y1 y2 y3
          have hb37 : b3 < w7.heap.size := by have := HB7.out.size; omega
          by_cases he : refE l = 0
          · obtain ⟨a1, a2, a3, rfl⟩ := HBG4.out.good he
            have hfd := formed_any w7 y (bagTo l) (HBG4.out.full.below HB7.out)
            have hk := refE_good he
            have hkx : ∀ x ∈ l, kindOk l[0]! x = true := fun x hx => by
              obtain ⟨j, hj, rfl⟩ := List.mem_iff_getElem.1 hx
              have h1 := hk.1 j hj
              rwa [getElem!_pos l j hj] at h1
            have e1 : y.formed (bagTo l) = true := by
              unfold Val.formed
              rw [a1, a2, a3, bag_formed hkx (fun x hx => HA.out x hx (kindOk_parts (hkx x hx)).2.1) hk.2]
              simp
            rw [e1] at hfd
            have HFD := Lib.hid hfd
            clear hfd hk hkx e1 a1 a2 a3
            rw [he]
            go_wp2_with fail
            refine HFD.out.mono ?_
            rintro e w8 ⟨rfl, hb8⟩
            have HBr8 := Lib.hid (HBr7.out.trans (hb8.mono HBr7.out.size))
            clear hb8
            go_wp2_with fail
            go_ret
            exact ⟨rfl, HBr8.out⟩
          · have he' : (refE l != 0) = true := by simpa using he
            go_wp2_with fail
            go_ret
            exact ⟨rfl, HBr7.out⟩

theorem bags_any (w : World) (ps : List (Val × List Val)) (ad : Option Addr) (g o cp : Nat) (hl : ListAt w ad g o (ps.map (·.1))) (hsrc : Src w (.slice ad ps.length cp) (ps.map (·.1))) (hf : ∀ p ∈ ps, Full w p.1 p.2) (hm : ps.length ≤ maxLen) :
    Calls Try.prog 4 #[.slice ad ps.length cp] w fun e w' => e = .returned (.bool true) ∧ Below w.heap.size w w' := by
  cases h : (ps.take 100).all (fun p => small p.1 p.2) && decide ((ps.length : Int) ≤ 30)
  · exact bags_big w ps ad g o cp hl hf hm h
  · rw [Bool.and_eq_true, List.all_eq_true] at h
    have h30 : ps.length ≤ 30 := by have := of_decide_eq_true h.2; omega
    exact bags_small w ps ad g o cp hl hsrc hf h30 fun p hp => h.1 p (by rw [List.take_of_length_le (by omega)]; exact hp)
end Go.Proofs.Ytgfnbbclopdapaa
