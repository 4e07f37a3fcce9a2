/- Formed values, as the document has them; Total orders told by -1, 0, 1: numbers, texts, lists, kinds first. Plain mathematics. -/
import Derived.Test.YtllgodaphoncnaaGreatDoorJ06
import Derived.Test.YtllgodaphoncnaaGreatDoorJ02
namespace Go.Proofs.YtllgodaphoncnaaGreatDoor
open Go.RowKit

set_option maxRecDepth 100000 in
theorem alone_kind {y : Val} (h : y.alone = true) : y.k = 0 ∨ y.k = 1 ∨ y.k = 2 ∨ y.k = 3 ∨ y.k = 4 := by
  unfold Val.alone aloneB at h
  by_cases h0 : y.k = 0; · exact .inl h0
  by_cases h1 : y.k = 1; · exact .inr (.inl h1)
  by_cases h2 : y.k = 2; · exact .inr (.inr (.inl h2))
  by_cases h3 : y.k = 3; · exact .inr (.inr (.inr (.inl h3)))
  by_cases h4 : y.k = 4; · exact .inr (.inr (.inr (.inr h4)))
  simp [h0, h1, h2, h3, h4] at h
set_option maxRecDepth 100000 in
theorem ord_same {p y : Val} (hk : p.k = y.k) (hy : y.alone = true) (h0 : ¬ y.k = 0) : ordS p.k p.i p.s y.k y.i y.s = p.ord y := by
  unfold Val.ord ordS ordA
  rw [hk]
  rcases alone_kind hy with h | h | h | h | h
  · exact absurd h h0
  all_goals simp [h]
set_option maxRecDepth 100000 in
theorem okV_parts {h p x : Val} {j : Nat} (e : okV h p x j = true) : ¬ x.k = 0 ∧ x.k = h.k ∧ x.alone = true := by
  unfold okV at e
  simp at e
  exact ⟨e.1, e.2.1, e.2.2.1⟩
set_option maxRecDepth 100000 in
set_option maxHeartbeats 2000000 in
theorem refFormed_bag (w : World) (x : Val) (l : List Val) (hf : Full w x l) (hk : x.k = 5) (h1 : x.i = 0) (h2 : x.s.toList.isEmpty = true) (h16 : ¬ 16 < x.n) :
    Calls Tryz.prog 56 #[x.v] w fun e w' => e = .returned (.bool (listB l)) ∧ Below w.heap.size w w' := by
  obtain ⟨g, o, hl⟩ := hf.list
  have hn := hf.len
  have h16' : l.length ≤ 16 := by omega
  have HL := Lib.hid hl
  have HN := Lib.hid hn
  clear hl hf hn
  unfold Val.v
  go_enter Tryz.func56, Tryz.ntmps56
  go_wp2_with fail
  generalize hW : World.alloc _ _ = W0
  have hb0 : Below w.heap.size w W0 := by rw [← hW]; exact (Below.refl _ _).alloc (Nat.le_refl _) _
  have hblk : W0.heap[w.heap.size]? = some (.cells #[.int .i64 x.k, .int .i64 x.i, .string x.s, .slice x.a x.n x.c] 24 (0, 0)) := by rw [← hW]; first | exact heap_alloc_new _ _ | (rw [h1, hk]; exact heap_alloc_new _ _)
  have HB0 := Lib.hid hb0
  have Hblk := Lib.hid hblk
  clear hW hb0 hblk
  go_loopw [3] (fun i wr => ∃ k : Nat, k ≤ l.length ∧ i = .int .i64 k ∧ Hid (∀ j, j < k → okA l j = true) ∧ Below W0.heap.size W0 wr) (fun i _ => l.length - (intOf i).toNat)
  case atStart => exact ⟨0, by omega, rfl, Lib.hid (fun j hj => by omega), Below.refl _ _⟩
  case round =>
    obtain ⟨k, hkl, rfl, HA, hbw⟩ := hrel
    have HB := Lib.hid hbw
    have HBw := Lib.hid (HB0.out.trans (hbw.mono HB0.out.size))
    have hblk := (hbw.block _ (lt_block Hblk.out)).trans Hblk.out
    have r3 : wr.cell? ⟨w.heap.size, 3, none⟩ = some (.slice x.a x.n x.c) := cell_block hblk 3
    have HR := Lib.hid hblk
    clear hbw hblk
    have hxn := HN.out
    by_cases hlt : k < l.length
    · have hat := HL.out.at' (by intro e; subst e; simp at hlt)
      rw [hat] at r3 HR
      have hltn : k < x.n := by omega
      clear hxn hat
      go_wp2_with fail
      obtain ⟨y, hY⟩ : ∃ y, l[k]! = y := ⟨_, rfl⟩
      obtain ⟨h, hH⟩ : ∃ h, l[0]! = h := ⟨_, rfl⟩
      obtain ⟨p, hP⟩ : ∃ p, l[k - 1]! = p := ⟨_, rfl⟩
      have hok : okA l k = okV h p y k := by rw [okA, hY, hH, hP]
      have hsy : y.s.size ≤ maxLen := by rw [← hY, getElem!_pos l k hlt]; exact HL.out.size _ (List.getElem_mem _)
      have hsp : p.s.size ≤ maxLen := by rw [← hP, getElem!_pos l (k - 1) (by omega)]; exact HL.out.size _ (List.getElem_mem _)
      have Hsy := Lib.hid hsy
      have Hsp := Lib.hid hsp
      have HK := Lib.hid hok
      have p3 := fun m : Bl wr => (cells4 HR.out m).2.2.2
      have y0 := fun m : Bl wr => (HL.out.cells HBw.out k hlt m).1
      have y1 := fun m : Bl wr => (HL.out.cells HBw.out k hlt m).2.1
      have y2 := fun m : Bl wr => (HL.out.cells HBw.out k hlt m).2.2.1
      have y3 := fun m : Bl wr => (HL.out.cells HBw.out k hlt m).2.2.2
      have z0 := fun m : Bl wr => (HL.out.cells HBw.out 0 (by omega) m).1
      rw [hY] at y0 y1 y2 y3
      rw [hH] at z0
      simp only [Nat.zero_mul, Nat.add_zero] at z0
      have HP := Lib.hid hP
      have HH := Lib.hid hH
      clear hY hH hP hok hsy hsp
      obtain ⟨al, hal⟩ : ∃ al, y.alone = al := ⟨_, rfl⟩
      have F : Hid (∀ W, Calls Tryz.prog 82 #[V y.k y.i y.s y.a y.n y.c] W fun e w' => e = .returned (.bool al) ∧ Below W.heap.size W w') := Lib.hid (by
        intro W
        rw [← hal]
        exact one_any y.k y.i y.s y.a y.n y.c W Hsy.out)
      have HAL := Lib.hid hal
      clear hal r3
      cases al
      · skip
        refine wp_region_quiet_tailB 48 (by kernel_rfl) (by kernel_rfl) ?_
        simp only [List.take_succ_cons, List.take_zero, List.drop_succ_cons, List.drop_zero]
        iterate 48 (go_big_quiet_step ((go_at_call 82; with_reducible exact Calls.quiet_b (F.out _))))
        refine wpQuiet_nil ?_
        intro m
        have HBM := Lib.hid (HB.out.trans (m.below.mono HB.out.size))
        have HBMw := Lib.hid (HB0.out.trans (HBM.out.mono HB0.out.size))
        clear p3 y0 y1 y2 y3 z0
        go_wp2_with fail
        go_ret
        exact ⟨ret_bool (listB_no hlt (by rw [HK.out]; exact okV_alone HAL.out)), HBMw.out⟩
      by_cases hy0 : y.k = 0
      · have hy0' : (y.k == 0) = true := by simpa using hy0
        have HY0 := Lib.hid hy0
        clear hy0
        refine wp_region_quiet_tailB 48 (by kernel_rfl) (by kernel_rfl) ?_
        simp only [List.take_succ_cons, List.take_zero, List.drop_succ_cons, List.drop_zero]
        iterate 48 (go_big_quiet_step ((go_at_call 82; with_reducible exact Calls.quiet_b (F.out _))))
        refine wpQuiet_nil ?_
        intro m
        have HBM := Lib.hid (HB.out.trans (m.below.mono HB.out.size))
        have HBMw := Lib.hid (HB0.out.trans (HBM.out.mono HB0.out.size))
        clear p3 y0 y1 y2 y3 z0
        go_wp2_with fail
        go_ret
        exact ⟨ret_bool (listB_no hlt (by rw [HK.out]; exact okV_zero HY0.out)), HBMw.out⟩
      have hy0' : (y.k == 0) = false := by simpa using hy0
      by_cases hyh : y.k = h.k
      case neg =>
        have hyh' : (y.k != h.k) = true := by simpa using hyh
        refine wp_region_quiet_tailB 48 (by kernel_rfl) (by kernel_rfl) ?_
        simp only [List.take_succ_cons, List.take_zero, List.drop_succ_cons, List.drop_zero]
        iterate 48 (go_big_quiet_step ((go_at_call 82; with_reducible exact Calls.quiet_b (F.out _))))
        refine wpQuiet_nil ?_
        intro m
        have HBM := Lib.hid (HB.out.trans (m.below.mono HB.out.size))
        have HBMw := Lib.hid (HB0.out.trans (HBM.out.mono HB0.out.size))
        clear p3 y0 y1 y2 y3 z0
        go_wp2_with fail
        go_ret
        exact ⟨ret_bool (listB_no hlt (by rw [HK.out]; exact okV_kind hyh)), HBMw.out⟩
      rw [← hyh] at z0
      have HYH := Lib.hid hyh
      clear hyh
      rcases k with _ | k
      · skip
        refine wp_region_quiet_tailB 48 (by kernel_rfl) (by kernel_rfl) ?_
        simp only [List.take_succ_cons, List.take_zero, List.drop_succ_cons, List.drop_zero]
        iterate 48 (go_big_quiet_step ((go_at_call 82; with_reducible exact Calls.quiet_b (F.out _))))
        refine wpQuiet_nil ?_
        intro m
        have HBM := Lib.hid (HB.out.trans (m.below.mono HB.out.size))
        have HBMw := Lib.hid (HB0.out.trans (HBM.out.mono HB0.out.size))
        clear p3 y0 y1 y2 y3 z0
        go_wp2_with fail
        go_roundw
        case rel => exact ⟨1, by omega, by go_num, Lib.hid (ext_ok HA.out (by rw [HK.out]; exact okV_first hy0 HYH.out HAL.out)), HBM.out⟩
        case measure => simp [intOf]; omega
      · have q0 := fun m : Bl wr => (HL.out.cells HBw.out k (by omega) m).1
        have q1 := fun m : Bl wr => (HL.out.cells HBw.out k (by omega) m).2.1
        have q2 := fun m : Bl wr => (HL.out.cells HBw.out k (by omega) m).2.2.1
        have q3 := fun m : Bl wr => (HL.out.cells HBw.out k (by omega) m).2.2.2
        have hpk : l[k]! = p := HP.out
        rw [hpk] at q0 q1 q2 q3
        have hpp : okA l k = true := HA.out k (by omega)
        rw [okA, hpk] at hpp
        have hparts := okV_parts hpp
        have hyl : l[0]!.k = y.k := by
          rw [HH.out]; exact HYH.out.symm
        obtain ⟨od, hod⟩ : ∃ od, p.ord y = od := ⟨_, rfl⟩
        have G : Hid (∀ W, Calls Tryz.prog 83 #[V p.k p.i p.s p.a p.n p.c, V y.k y.i y.s y.a y.n y.c] W fun e w' => e = .returned (.int .i64 od) ∧ Below W.heap.size W w') := Lib.hid (by
          intro W
          rw [← hod, ← ord_same (hparts.2.1.trans hyl) HAL.out hy0]
          exact single_any p.k p.i p.s p.a p.n p.c y.k y.i y.s y.a y.n y.c W Hsp.out Hsy.out)
        have HOD := Lib.hid hod
        clear hod hpk hpp hparts hyl
        refine wp_region_quiet_tailB 48 (by kernel_rfl) (by kernel_rfl) ?_
        simp only [List.take_succ_cons, List.take_zero, List.drop_succ_cons, List.drop_zero]
        iterate 48 (go_big_quiet_step ((first | (go_at_call 82; with_reducible exact Calls.quiet_b (F.out _)) | (go_at_call 83; with_reducible exact Calls.quiet_b (G.out _)))))
        refine wpQuiet_nil ?_
        intro m
        have HBM := Lib.hid (HB.out.trans (m.below.mono HB.out.size))
        have HBMw := Lib.hid (HB0.out.trans (HBM.out.mono HB0.out.size))
        clear p3 y0 y1 y2 y3 z0
        clear q0 q1 q2 q3
        by_cases hneg : od < 0
        · go_wp2_with fail
          go_roundw
          case rel => exact ⟨k + 1 + 1, by omega, by go_num, Lib.hid (ext_ok HA.out (by rw [HK.out]; exact okV_yes hy0 HYH.out HAL.out (by rw [HOD.out]; exact hneg))), HBM.out⟩
          case measure => simp [intOf]; omega
        · go_wp2_with fail
          go_ret
          exact ⟨ret_bool (listB_no hlt (by rw [HK.out]; exact okV_ord (by omega) (by rw [HOD.out]; omega))), HBMw.out⟩
    · have hge : ¬ k < x.n := by omega
      clear hxn
      go_wp2
      go_ret
      exact ⟨ret_bool (listB_yes h16' (by have h := HA.out; intro j hj; exact h j (by omega))), HBw.out⟩

set_option maxRecDepth 100000 in
set_option maxHeartbeats 400000 in
theorem refFormed_any (w : World) (x : Val) (l : List Val) (hf : Full w x l) :
    Calls Tryz.prog 56 #[x.v] w fun e w' => e = .returned (.bool (x.formed l)) ∧ Below w.heap.size w w' := by
  by_cases hk : x.k = 5
  · have e : x.formed l = (x.i == 0 && (x.s.toList.isEmpty && listB l)) := by rw [Val.formed, if_pos (by simpa using hk)]
    rw [e]
    by_cases h1 : x.i = 0
    · by_cases h2 : x.s.toList.isEmpty = true
      · by_cases h16 : 16 < x.n
        · have hlf : listB l = false := (listB_long (by have := hf.len; omega)).symm
          rw [hlf]
          have hmost := hf.most
          unfold maxLen at hmost
          clear hlf e hf
          unfold Val.v
          go_enter Tryz.func56, Tryz.ntmps56
          go_wp2_with fail
          all_goals
            go_ret
            refine ⟨ret_bool ?_, (Below.refl _ _).alloc (Nat.le_refl _) _⟩
            simp
        · rw [show (x.i == 0 && (x.s.toList.isEmpty && listB l)) = listB l by simp [h1, h2]]
          exact refFormed_bag w x l hf hk h1 h2 h16
      · clear e hf
        unfold Val.v
        go_enter Tryz.func56, Tryz.ntmps56
        go_wp2_with fail
        all_goals
          go_ret
          refine ⟨ret_bool ?_, (Below.refl _ _).alloc (Nat.le_refl _) _⟩
          simp_all
    · clear e hf
      unfold Val.v
      go_enter Tryz.func56, Tryz.ntmps56
      go_wp2_with fail
      all_goals
        go_ret
        refine ⟨ret_bool ?_, (Below.refl _ _).alloc (Nat.le_refl _) _⟩
        simp_all
  · have e : x.formed l = x.alone := by rw [Val.formed, if_neg (by simpa using hk)]
    rw [e]
    have F := Lib.hid (fun W => one_any x.k x.i x.s x.a x.n x.c W hf.size)
    have hk' : (x.k != 5) = true := by simpa using hk
    clear e hf
    unfold Val.v
    go_enter Tryz.func56, Tryz.ntmps56
    go_wp2_with fail
    refine (F.out _).mono ?_
    rintro e w1 ⟨rfl, hb1⟩
    have HB := Lib.hid (((Below.refl w.heap.size w).alloc (Nat.le_refl _) _).trans (hb1.mono (by simp)))
    clear hb1 F
    go_wp2_with fail
    go_ret
    exact ⟨rfl, HB.out⟩
end Go.Proofs.YtllgodaphoncnaaGreatDoor
namespace Go.Proofs.YtllgodaphoncnaaGreatDoor

structure IsCmp {α : Type} (c : α → α → Int) : Prop where
  range : ∀ a b, c a b = -1 ∨ c a b = 0 ∨ c a b = 1
  anti : ∀ a b, c b a = -c a b
  trans : ∀ a b d, c a b ≤ 0 → c b d ≤ 0 → c a d ≤ 0
section
variable {α β : Type} {c : α → α → Int}
set_option maxRecDepth 100000 in
theorem IsCmp.self (h : IsCmp c) (a : α) : c a a = 0 := by have := h.anti a a; omega
set_option maxRecDepth 100000 in
theorem IsCmp.lt_le (h : IsCmp c) {a b d : α} (h1 : c a b < 0) (h2 : c b d ≤ 0) : c a d < 0 := by
  have h3 := h.trans a b d (by omega) h2
  rcases Int.lt_or_eq_of_le h3 with h4 | h4
  · exact h4
  · have h5 := h.trans b d a h2 (by rw [h.anti a d]; omega)
    rw [h.anti a b] at h5; omega
set_option maxRecDepth 100000 in
theorem IsCmp.le_lt (h : IsCmp c) {a b d : α} (h1 : c a b ≤ 0) (h2 : c b d < 0) : c a d < 0 := by
  have h3 := h.trans a b d h1 (by omega)
  rcases Int.lt_or_eq_of_le h3 with h4 | h4
  · exact h4
  · have h5 := h.trans d a b (by rw [h.anti a d]; omega) h1
    rw [h.anti b d] at h5; omega
set_option maxRecDepth 100000 in
theorem IsCmp.eq_eq (h : IsCmp c) {a b d : α} (h1 : c a b = 0) (h2 : c b d = 0) : c a d = 0 := by
  have h3 := h.trans a b d (by omega) (by omega)
  have h4 := h.trans d b a (by rw [h.anti b d]; omega) (by rw [h.anti a b]; omega)
  rw [h.anti a d] at h4; omega
set_option maxRecDepth 100000 in
theorem IsCmp.comap (h : IsCmp c) (f : β → α) : IsCmp (fun a b => c (f a) (f b)) := ⟨fun _ _ => h.range _ _, fun _ _ => h.anti _ _, fun _ _ _ => h.trans _ _ _⟩
set_option maxRecDepth 100000 in
theorem isCmp_I : IsCmp cmpI := by
  refine ⟨fun a b => ?_, fun a b => ?_, fun a b d => ?_⟩
  · unfold cmpI; (repeat split) <;> omega
  · unfold cmpI; (repeat split) <;> omega
  · unfold cmpI; (repeat split) <;> omega
set_option maxRecDepth 100000 in
theorem isCmp_zero : IsCmp (fun _ _ : α => 0) := ⟨fun _ _ => .inr (.inl rfl), fun _ _ => rfl, fun _ _ _ h _ => h⟩

/-- lists compared by their first values that are other, then the shorter ahead -/
def lexO (f : α → α → Int) : List α → List α → Int
  | [], [] => 0
  | [], _ :: _ => -1
  | _ :: _, [] => 1
  | a :: x, b :: y => if f a b = 0 then lexO f x y else f a b
set_option maxRecDepth 100000 in
theorem isCmp_lex (h : IsCmp c) : IsCmp (lexO c) := by
  refine ⟨?_, ?_, ?_⟩
  · intro x
    induction x with
    | nil => intro y; cases y <;> simp [lexO]
    | cons a x ih =>
      intro y
      cases y with
      | nil => simp [lexO]
      | cons b y =>
        unfold lexO; split
        · exact ih y
        · exact h.range a b
  · intro x
    induction x with
    | nil => intro y; cases y <;> simp [lexO]
    | cons a x ih =>
      intro y
      cases y with
      | nil => simp [lexO]
      | cons b y =>
        have e := h.anti a b
        unfold lexO
        by_cases h0 : c a b = 0
        · rw [if_pos h0, if_pos (by omega)]; exact ih y
        · rw [if_neg h0, if_neg (by omega)]; exact e
  · intro x
    induction x with
    | nil => intro y z; cases y <;> cases z <;> simp [lexO]
    | cons a x ih =>
      intro y z
      cases y with
      | nil => cases z <;> simp [lexO]
      | cons b y =>
        cases z with
        | nil => simp [lexO]
        | cons d z =>
          unfold lexO
          intro h1 h2
          by_cases e1 : c a b = 0
          · rw [if_pos e1] at h1
            by_cases e2 : c b d = 0
            · rw [if_pos e2] at h2
              rw [if_pos (h.eq_eq e1 e2)]
              exact ih y z h1 h2
            · rw [if_neg e2] at h2
              have e3 := h.le_lt (a := a) (by omega) (show c b d < 0 by omega)
              rw [if_neg (by omega)]; omega
          · rw [if_neg e1] at h1
            have e3 : c a d < 0 := by
              by_cases e2 : c b d = 0
              · exact h.lt_le (by omega) (by omega : c b d ≤ 0)
              · rw [if_neg e2] at h2
                exact h.lt_le (by omega) h2
            rw [if_neg (by omega)]; omega
/-- by a kind first, then by an order of that kind's own -/
def byKind (k : α → Int) (g : Int → α → α → Int) (a b : α) : Int := if k a = k b then g (k a) a b else cmpI (k a) (k b)
set_option maxRecDepth 100000 in
theorem isCmp_kind (k : α → Int) (g : Int → α → α → Int) (h : ∀ n, IsCmp (g n)) : IsCmp (byKind k g) := by
  have ne : ∀ {a b : Int}, ¬ a = b → cmpI a b = -1 ∨ cmpI a b = 1 := by intro a b h; unfold cmpI; (repeat split) <;> omega
  refine ⟨?_, ?_, ?_⟩
  · intro a b; unfold byKind; split
    · exact (h _).range a b
    · exact isCmp_I.range _ _
  · intro a b; unfold byKind
    by_cases e : k a = k b
    · rw [if_pos e, if_pos e.symm, ← e]; exact (h _).anti a b
    · rw [if_neg e, if_neg (fun x => e x.symm)]; exact isCmp_I.anti _ _
  · intro a b d; unfold byKind
    by_cases e1 : k a = k b
    · rw [if_pos e1]
      by_cases e2 : k b = k d
      · rw [if_pos e2, if_pos (e1.trans e2), ← e1]; exact (h _).trans a b d
      · rw [if_neg e2, if_neg (by rw [e1]; exact e2), e1]; exact fun _ h => h
    · rw [if_neg e1]
      by_cases e2 : k b = k d
      · rw [if_pos e2, if_neg (by rw [← e2]; exact e1), ← e2]; exact fun h _ => h
      · rw [if_neg e2]
        intro h1 h2
        have g1 : cmpI (k a) (k b) < 0 := by rcases ne e1 with h | h <;> omega
        have g3 := isCmp_I.lt_le g1 h2
        split
        · rename_i e3; rw [e3] at g3; have := isCmp_I.self (k d); omega
        · omega
end
set_option maxRecDepth 100000 in
theorem cmpT_lex : ∀ x y : List UInt8, cmpT x y = lexO (fun a b : UInt8 => cmpI a.toNat b.toNat) x y
  | [], [] => rfl
  | [], _ :: _ => rfl
  | _ :: _, [] => rfl
  | a :: x, b :: y => by
    have ih := cmpT_lex x y
    rw [cmpT, lexO]
    simp only [UInt8.lt_iff_toNat_lt]
    by_cases h : a.toNat < b.toNat
    · have e : cmpI a.toNat b.toNat = -1 := by unfold cmpI; rw [if_pos (by omega)]
      rw [if_pos h, e]; rfl
    · by_cases h' : b.toNat < a.toNat
      · have e : cmpI a.toNat b.toNat = 1 := by unfold cmpI; rw [if_neg (by omega), if_pos (by omega)]
        rw [if_neg h, if_pos h', e]; rfl
      · have e : cmpI a.toNat b.toNat = 0 := by unfold cmpI; rw [if_neg (by omega), if_neg (by omega)]
        rw [if_neg h, if_neg h', e, if_pos rfl]; exact ih
set_option maxRecDepth 100000 in
theorem isCmp_T : IsCmp cmpT := by
  have h : cmpT = lexO (fun a b : UInt8 => cmpI a.toNat b.toNat) := by funext x y; exact cmpT_lex x y
  rw [h]; exact isCmp_lex (isCmp_I.comap fun a : UInt8 => (a.toNat : Int))
end Go.Proofs.YtllgodaphoncnaaGreatDoor
