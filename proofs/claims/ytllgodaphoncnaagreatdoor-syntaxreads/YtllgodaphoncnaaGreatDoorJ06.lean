/- Two values of a size that is looked at; What a bag may have: the program's way. -/
import Derived.Test.YtllgodaphoncnaaGreatDoorJ04
import Derived.Test.YtllgodaphoncnaaGreatDoorQTail
namespace Go.Proofs.YtllgodaphoncnaaGreatDoor
open Go.RowKit

set_option maxRecDepth 100000 in
theorem listAt_two {w : World} {g : Nat} {x y : Val} {t : TypeId} {fr : Nat × Nat} (h : w.heap[g]? = some (.cells #[.int .i64 x.k, .int .i64 x.i, .string x.s, .slice x.a x.n x.c, .int .i64 y.k, .int .i64 y.i, .string y.s, .slice y.a y.n y.c] t fr))
    (hx : x.s.size ≤ maxLen) (hy : y.s.size ≤ maxLen) : ListAt w (some ⟨g, 0, none⟩) g 0 [x, y] := by
  refine ⟨fun _ => rfl, ?_, ?_, ?_, ?_, ?_⟩
  · rintro (_ | _ | j) hj
    · exact cell_block h 0
    · exact cell_block h 4
    · exact absurd (show j + 1 + 1 < 2 from hj) (by omega)
  · rintro (_ | _ | j) hj
    · exact cell_block h 1
    · exact cell_block h 5
    · exact absurd (show j + 1 + 1 < 2 from hj) (by omega)
  · rintro (_ | _ | j) hj
    · exact cell_block h 2
    · exact cell_block h 6
    · exact absurd (show j + 1 + 1 < 2 from hj) (by omega)
  · rintro (_ | _ | j) hj
    · exact cell_block h 3
    · exact cell_block h 7
    · exact absurd (show j + 1 + 1 < 2 from hj) (by omega)
  · intro z hz
    rcases List.mem_cons.1 hz with rfl | hz
    · exact hx
    rcases List.mem_cons.1 hz with rfl | hz
    · exact hy
    cases hz
end Go.Proofs.YtllgodaphoncnaaGreatDoor
namespace Go.Proofs.YtllgodaphoncnaaGreatDoor
open Go.RowKit

/-- a value that is no bag is formed -/
def Val.alone (x : Val) : Bool := aloneB x.k x.i x.s x.n
def Val.ord (x y : Val) : Int := ordA x.k x.i x.s y.k y.i y.s
/-- what the j-th of a bag's values has to be -/
def okV (h p x : Val) (j : Nat) : Bool := !(x.k == 0) && (x.k == h.k && (x.alone && (j == 0 || decide (p.ord x < 0))))
def okA (l : List Val) (j : Nat) : Bool := okV l[0]! l[j - 1]! l[j]! j
set_option maxRecDepth 100000 in
theorem okV_zero {h p x : Val} {j : Nat} (e : x.k = 0) : okV h p x j = false := by simp [okV, e]
set_option maxRecDepth 100000 in
theorem okV_kind {h p x : Val} {j : Nat} (e : ¬ x.k = h.k) : okV h p x j = false := by simp [okV, e]
set_option maxRecDepth 100000 in
theorem okV_alone {h p x : Val} {j : Nat} (e : x.alone = false) : okV h p x j = false := by simp [okV, e]
set_option maxRecDepth 100000 in
theorem okV_ord {h p x : Val} {j : Nat} (hj : 0 < j) (e : ¬ p.ord x < 0) : okV h p x j = false := by
  have : (j == 0) = false := by simp; omega
  simp [okV, e, this]
set_option maxRecDepth 100000 in
theorem okV_first {h p x : Val} (e : ¬ x.k = 0) (e1 : x.k = h.k) (e2 : x.alone = true) : okV h p x 0 = true := by rw [okV, e2, e1]; rw [e1] at e; simp [e]
set_option maxRecDepth 100000 in
theorem okV_yes {h p x : Val} {j : Nat} (e : ¬ x.k = 0) (e1 : x.k = h.k) (e2 : x.alone = true) (e3 : p.ord x < 0) : okV h p x j = true := by rw [okV, e2, e1]; rw [e1] at e; simp [e, e3]
/-- may a bag have these values? -/
def listB (l : List Val) : Bool := decide (l.length ≤ 16) && (List.range l.length).all (okA l)
set_option maxRecDepth 100000 in
theorem ext_ok {P : Nat → Prop} {k : Nat} (h : ∀ j, j < k → P j) (h' : P k) : ∀ j, j < k + 1 → P j := fun j hj => by
  rcases Nat.lt_or_ge j k with h1 | h1
  · exact h j h1
  · obtain rfl : j = k := by omega
    exact h'
set_option maxRecDepth 100000 in
theorem listB_no {l : List Val} {j : Nat} (hj : j < l.length) (h : okA l j = false) : false = listB l := by
  unfold listB
  rw [all_no (okA l) (List.range l.length) j (by simpa using hj) (by simpa using h), Bool.and_false]
set_option maxRecDepth 100000 in
theorem listB_yes {l : List Val} (h16 : l.length ≤ 16) (h : ∀ j, j < l.length → okA l j = true) : true = listB l := by
  unfold listB
  rw [decide_eq_true h16, Bool.true_and]
  exact (List.all_eq_true.2 fun j hj => h j (by simpa using hj)).symm
set_option maxRecDepth 100000 in
theorem listB_long {l : List Val} (h : ¬ l.length ≤ 16) : false = listB l := by simp [listB, h]
set_option maxRecDepth 100000 in
/-- a list's cells, in every world in which old blocks are as they were -/
theorem ListAt.cells {w : World} {ad : Option Addr} {g o : Nat} {l : List Val} (h : ListAt w ad g o l) {W : World} (hW : Below w.heap.size w W) (j : Nat) (hj : j < l.length) (m : Bl W) :
    m.wr.cell? ⟨g, o + j * 4, none⟩ = some (.int .i64 l[j]!.k) ∧ m.wr.cell? ⟨g, o + j * 4 + 1, none⟩ = some (.int .i64 l[j]!.i) ∧ m.wr.cell? ⟨g, o + j * 4 + 2, none⟩ = some (.string l[j]!.s) ∧ m.wr.cell? ⟨g, o + j * 4 + 3, none⟩ = some (.slice l[j]!.a l[j]!.n l[j]!.c) := by
  have hl := h.below (hW.trans (m.below.mono hW.size))
  have e : l[j]! = l[j] := getElem!_pos l j hj
  rw [e]
  exact ⟨hl.c0 j hj, hl.c1 j hj, hl.c2 j hj, hl.c3 j hj⟩
set_option maxRecDepth 100000 in
theorem cells4 {W : World} {g : Nat} {x y z u : Value} {t : TypeId} {fr : Nat × Nat} (h : W.heap[g]? = some (.cells #[x, y, z, u] t fr)) (m : Bl W) :
    m.wr.cell? ⟨g, 0, none⟩ = some x ∧ m.wr.cell? ⟨g, 1, none⟩ = some y ∧ m.wr.cell? ⟨g, 2, none⟩ = some z ∧ m.wr.cell? ⟨g, 3, none⟩ = some u := by
  have hm := (m.below.block g (lt_block h)).trans h
  exact ⟨cell_block hm 0, cell_block hm 1, cell_block hm 2, cell_block hm 3⟩

set_option maxRecDepth 100000 in
set_option maxHeartbeats 1000000 in
theorem formedList_any (w : World) (l : List Val) (ad : Option Addr) (g o cp : Nat) (hl : ListAt w ad g o l) (hm : l.length ≤ maxLen) :
    Calls Tryz.prog 183 #[.slice ad l.length cp] w fun e w' => e = .returned (.bool (listB l)) ∧ Below w.heap.size w w' := by
  have hm' := hm
  unfold maxLen at hm'
  have HL := Lib.hid hl
  clear hl hm
  by_cases h16 : l.length ≤ 16
  · go_enter Tryz.func183, Tryz.ntmps183
    go_wp2
    go_loopw [10] (fun i wr => ∃ k : Nat, k ≤ l.length ∧ i = .int .i64 k ∧ Hid (∀ j, j < k → okA l j = true) ∧ Below w.heap.size w wr) (fun i _ => l.length - (intOf i).toNat)
    case atStart => exact ⟨0, by omega, rfl, Lib.hid (fun j hj => by omega), Below.refl _ _⟩
    case round =>
      obtain ⟨k, hk, rfl, HA, hbw⟩ := hrel
      have HB := Lib.hid hbw
      clear hbw
      by_cases hlt : k < l.length
      · obtain rfl := HL.out.at' (by intro e; subst e; simp at hlt)
        have hlw := HL.out.below HB.out
        obtain ⟨x, hX⟩ : ∃ x, l[k]! = x := ⟨_, rfl⟩
        obtain ⟨h, hH⟩ : ∃ h, l[0]! = h := ⟨_, rfl⟩
        obtain ⟨p, hP⟩ : ∃ p, l[k - 1]! = p := ⟨_, rfl⟩
        have hok : okA l k = okV h p x k := by rw [okA, hX, hH, hP]
        have e : x = l[k] := by rw [← hX]; exact getElem!_pos l k hlt
        have c0 := hlw.c0 k hlt
        have c1 := hlw.c1 k hlt
        have c2 := hlw.c2 k hlt
        have c3 := hlw.c3 k hlt
        rw [← e] at c0 c1 c2 c3
        have hsx : x.s.size ≤ maxLen := by rw [e]; exact HL.out.size _ (List.getElem_mem _)
        have Hsx := Lib.hid hsx
        have HK := Lib.hid hok
        have HX := Lib.hid hX
        have HH := Lib.hid hH
        have HP := Lib.hid hP
        clear e hlw hsx hok hX hH hP
        go_wp2_with fail
        clear c0 c1 c2 c3
        generalize hW : World.alloc _ _ = W
        have hbW : Below w.heap.size w W := by rw [← hW]; exact HB.out.alloc HB.out.size _
        have hblk : W.heap[wr.heap.size]? = some (.cells #[.int .i64 x.k, .int .i64 x.i, .string x.s, .slice x.a x.n x.c] 24 (0, 0)) := by rw [← hW]; exact heap_alloc_new _ _
        have HBW := Lib.hid hbW
        have p0 := fun m : Bl W => (cells4 hblk m).1
        have p1 := fun m : Bl W => (cells4 hblk m).2.1
        have p2 := fun m : Bl W => (cells4 hblk m).2.2.1
        have p3 := fun m : Bl W => (cells4 hblk m).2.2.2
        have q0 := fun m : Bl W => (HL.out.cells hbW 0 (by omega) m).1
        rw [HH.out] at q0
        simp only [Nat.zero_mul, Nat.add_zero] at q0
        clear hW hbW
        by_cases hx0 : x.k = 0
        · refine wp_region_quiet_tailB 16 (by kernel_rfl) (by kernel_rfl) ?_
          simp only [List.take_succ_cons, List.take_zero, List.drop_succ_cons, List.drop_zero]
          iterate 16 (go_big_quiet_step (fail))
          refine wpQuiet_nil ?_
          intro m
          have HBM := Lib.hid (HBW.out.trans (m.below.mono HBW.out.size))
          clear p0 p1 p2 p3 q0
          go_wp2_with fail
          go_ret
          exact ⟨ret_bool (listB_no hlt (by rw [HK.out]; exact okV_zero hx0)), HBM.out⟩
        have hx0' : (x.k == 0) = false := by simpa using hx0
        by_cases hxh : x.k = h.k
        case neg =>
          have hxh' : (x.k != h.k) = true := by simpa using hxh
          refine wp_region_quiet_tailB 16 (by kernel_rfl) (by kernel_rfl) ?_
          simp only [List.take_succ_cons, List.take_zero, List.drop_succ_cons, List.drop_zero]
          iterate 16 (go_big_quiet_step (fail))
          refine wpQuiet_nil ?_
          intro m
          have HBM := Lib.hid (HBW.out.trans (m.below.mono HBW.out.size))
          clear p0 p1 p2 p3 q0
          go_wp2_with fail
          go_ret
          exact ⟨ret_bool (listB_no hlt (by rw [HK.out]; exact okV_kind hxh)), HBM.out⟩
        rw [← hxh] at q0
        have HXH := Lib.hid hxh
        clear hxh
        obtain ⟨al, hal⟩ : ∃ al, x.alone = al := ⟨_, rfl⟩
        have F : Hid (∀ W, Calls Tryz.prog 184 #[V x.k x.i x.s x.a x.n x.c] W fun e w' => e = .returned (.bool al) ∧ Below W.heap.size W w') := Lib.hid (by
          intro W
          rw [← hal]
          exact alone_any x.k x.i x.s x.a x.n x.c W Hsx.out)
        have HAL := Lib.hid hal
        clear hal
        refine wp_region_quiet_tailB 16 (by kernel_rfl) (by kernel_rfl) ?_
        simp only [List.take_succ_cons, List.take_zero, List.drop_succ_cons, List.drop_zero]
        iterate 16 (go_big_quiet_step ((go_at_call 184; with_reducible exact Calls.quiet_b (F.out _))))
        refine wpQuiet_nil ?_
        intro m
        have hblk2 := (m.below.block _ (lt_block hblk)).trans hblk
        have HBM := Lib.hid (HBW.out.trans (m.below.mono HBW.out.size))
        clear p0 p1 p2 p3 q0 F HBW hblk
        generalize m.wr = W2 at *
        clear m
        cases al
        · go_wp2_with fail
          go_ret
          exact ⟨ret_bool (listB_no hlt (by rw [HK.out]; exact okV_alone HAL.out)), HBM.out⟩
        go_wp2_with fail
        have p0 := fun m : Bl W2 => (cells4 hblk2 m).1
        have p1 := fun m : Bl W2 => (cells4 hblk2 m).2.1
        have p2 := fun m : Bl W2 => (cells4 hblk2 m).2.2.1
        have p3 := fun m : Bl W2 => (cells4 hblk2 m).2.2.2
        clear hblk2
        rcases k with _ | k
        · refine wp_region_quiet_tailB 11 (by kernel_rfl) (by kernel_rfl) ?_
          simp only [List.take_succ_cons, List.take_zero, List.drop_succ_cons, List.drop_zero]
          iterate 11 (go_big_quiet_step (fail))
          refine wpQuiet_nil ?_
          intro m
          have HBM2 := Lib.hid (HBM.out.trans (m.below.mono HBM.out.size))
          clear p0 p1 p2 p3
          go_wp2_with fail
          go_roundw
          case rel => exact ⟨1, by omega, by go_num, Lib.hid (by intro j hj; obtain rfl : j = 0 := (by omega); rw [HK.out]; exact okV_first hx0 HXH.out HAL.out), HBM2.out⟩
          case measure => simp [intOf]; omega
        · have q0 := fun m : Bl W2 => (HL.out.cells HBM.out k (by omega) m).1
          have q1 := fun m : Bl W2 => (HL.out.cells HBM.out k (by omega) m).2.1
          have q2 := fun m : Bl W2 => (HL.out.cells HBM.out k (by omega) m).2.2.1
          have q3 := fun m : Bl W2 => (HL.out.cells HBM.out k (by omega) m).2.2.2
          have hpk : l[k]! = p := HP.out
          rw [hpk] at q0 q1 q2 q3
          obtain ⟨od, hod⟩ : ∃ od, p.ord x = od := ⟨_, rfl⟩
          have F : Hid (∀ W, Calls Tryz.prog 168 #[V p.k p.i p.s p.a p.n p.c, V x.k x.i x.s x.a x.n x.c] W fun e w' => e = .returned (.int .i64 od) ∧ Below W.heap.size W w') := Lib.hid (by
            intro W
            rw [← hod]
            exact orderAlone_any p.k p.i p.s p.a p.n p.c x.k x.i x.s x.a x.n x.c W)
          have HOD := Lib.hid hod
          clear hod hpk
          refine wp_region_quiet_tailB 11 (by kernel_rfl) (by kernel_rfl) ?_
          simp only [List.take_succ_cons, List.take_zero, List.drop_succ_cons, List.drop_zero]
          iterate 11 (go_big_quiet_step ((go_at_call 168; with_reducible exact Calls.quiet_b (F.out _))))
          refine wpQuiet_nil ?_
          intro m
          have HBM2 := Lib.hid (HBM.out.trans (m.below.mono HBM.out.size))
          clear p0 p1 p2 p3 q0 q1 q2 q3 F
          by_cases hneg : od < 0
          · go_wp2_with fail
            go_roundw
            case rel => exact ⟨k + 1 + 1, by omega, by go_num, Lib.hid (ext_ok HA.out (by rw [HK.out]; exact okV_yes hx0 HXH.out HAL.out (by rw [HOD.out]; exact hneg))), HBM2.out⟩
            case measure => simp [intOf]; omega
          · go_wp2_with fail
            go_ret
            exact ⟨ret_bool (listB_no hlt (by rw [HK.out]; exact okV_ord (by omega) (by rw [HOD.out]; omega))), HBM2.out⟩
      · go_wp2
        go_ret
        exact ⟨ret_bool (listB_yes h16 (by have h := HA.out; intro j hj; exact h j (by omega))), HB.out⟩
  · go_enter Tryz.func183, Tryz.ntmps183
    go_wp2
    go_ret
    exact ⟨ret_bool (listB_long h16), Below.refl _ _⟩

/-- is a value formed? -/
def Val.formed (x : Val) (l : List Val) : Bool := if x.k == 5 then x.i == 0 && (x.s.toList.isEmpty && listB l) else x.alone
set_option maxRecDepth 100000 in
set_option maxHeartbeats 400000 in
theorem formed_any (w : World) (x : Val) (l : List Val) (hf : Full w x l) :
    Calls Tryz.prog 175 #[x.v] w fun e w' => e = .returned (.bool (x.formed l)) ∧ Below w.heap.size w w' := by
  by_cases hk : (x.k == 5) = true
  · have e : x.formed l = (x.i == 0 && (x.s.toList.isEmpty && listB l)) := by rw [Val.formed, if_pos hk]
    rw [e]
    obtain ⟨g, o, hl⟩ := hf.list
    have F : Hid (∀ W, Below w.heap.size w W → Calls Tryz.prog 183 #[.slice x.a x.n x.c] W fun e w' => e = .returned (.bool (listB l)) ∧ Below W.heap.size W w') := Lib.hid (by
      intro W hW
      rw [← hf.len]
      exact formedList_any W l x.a g o x.c (hl.below hW) (by rw [hf.len]; exact hf.most))
    clear hl e hf
    unfold Val.v
    generalize listB l = B at *
    by_cases h1 : x.i = 0
    · by_cases h2 : x.s.toList.isEmpty = true
      · go_enter Tryz.func175, Tryz.ntmps175
        go_wp2_with fail
        refine (F.out _ ((Below.refl _ _).alloc (Nat.le_refl _) _)).mono ?_
        rintro e w1 ⟨rfl, hb1⟩
        have HB := Lib.hid (((Below.refl w.heap.size w).alloc (Nat.le_refl _) _).trans (hb1.mono (by simp)))
        clear hb1 F
        go_wp2_with fail
        go_ret
        refine ⟨ret_bool ?_, HB.out⟩
        simp [h1, h2]
      · go_enter Tryz.func175, Tryz.ntmps175
        go_wp2_with fail
        all_goals
          go_ret
          refine ⟨ret_bool ?_, (Below.refl _ _).alloc (Nat.le_refl _) _⟩
          simp_all
    · go_enter Tryz.func175, Tryz.ntmps175
      go_wp2_with fail
      all_goals
        go_ret
        refine ⟨ret_bool ?_, (Below.refl _ _).alloc (Nat.le_refl _) _⟩
        simp_all
  · have e : x.formed l = x.alone := by rw [Val.formed, if_neg hk]
    rw [e]
    exact formed_one x.k x.i x.s x.a x.n x.c w hf.size (by simpa using hk)
end Go.Proofs.YtllgodaphoncnaaGreatDoor
