/- P2.1, the bags: which values can be in one bag; A region that draws its order: reads and callees that keep what is there, blocks that are new, stores into them; then a tail in one forced order. One walk of the text's order serves every order. -/
import Derived.Test.YtllgodaphoncnaaGreatDoorJ07
import Derived.Test.YtllgodaphoncnaaGreatDoorJ10
import Derived.Test.YtllgodaphoncnaaGreatDoorJ02
namespace Go.Proofs.YtllgodaphoncnaaGreatDoor
open Go.RowKit

/-- may a value of this kind be in one bag with h? -/
def kindOk (h x : Val) : Bool := !(x.k == 0) && (!(x.k == 5) && x.k == h.k)
/-- the error of values that can't be in one bag -/
def mayB (l : List Val) (F : Nat → Bool) : Int := if (List.range l.length).all F then (if (List.range l.length).all (fun j => kindOk l[0]! l[j]!) then 0 else 6) else 1
set_option maxRecDepth 100000 in
theorem mayB_arg {l : List Val} {F : Nat → Bool} {j : Nat} (hj : j < l.length) (h : F j = false) : (1 : Int) = mayB l F := by
  have : (List.range l.length).all F = false := by
    rw [List.all_eq_false]; exact ⟨j, by simpa using hj, by simp [h]⟩
  rw [mayB, this]; rfl
set_option maxRecDepth 100000 in
theorem mayB_type {l : List Val} {F : Nat → Bool} {j : Nat} (hF : ∀ j, j < l.length → F j = true) (hj : j < l.length) (h : kindOk l[0]! l[j]! = false) : (6 : Int) = mayB l F := by
  have h1 : (List.range l.length).all F = true := by rw [List.all_eq_true]; intro x hx; exact hF x (by simpa using hx)
  have h2 : (List.range l.length).all (fun j => kindOk l[0]! l[j]!) = false := by
    rw [List.all_eq_false]; exact ⟨j, by simpa using hj, by simp only [h]; decide⟩
  rw [mayB, h1, h2]; rfl
set_option maxRecDepth 100000 in
theorem mayB_yes {l : List Val} {F : Nat → Bool} (hF : ∀ j, j < l.length → F j = true) (h : ∀ j, j < l.length → kindOk l[0]! l[j]! = true) : (0 : Int) = mayB l F := by
  have h1 : (List.range l.length).all F = true := by rw [List.all_eq_true]; intro x hx; exact hF x (by simpa using hx)
  have h2 : (List.range l.length).all (fun j => kindOk l[0]! l[j]!) = true := by rw [List.all_eq_true]; intro x hx; exact h x (by simpa using hx)
  rw [mayB, h1, h2]; rfl

set_option maxRecDepth 100000 in
set_option maxHeartbeats 1000000 in
theorem mayBag_any (w : World) (l : List Val) (ad : Option Addr) (g o cp : Nat) (F : Nat → Bool) (hl : ListAt w ad g o l) (hm : l.length ≤ maxLen) (hF : ∀ j, (h : j < l.length) → FormedIs w l[j].v (F j)) :
    Calls Tryz.prog 166 #[.slice ad l.length cp] w fun e w' => e = .returned (.int .i64 (mayB l F)) ∧ Below w.heap.size w w' := by
  have hm' := hm
  unfold maxLen at hm'
  have HL := Lib.hid hl
  have HF := Lib.hid hF
  clear hl hm hF
  go_enter Tryz.func166, Tryz.ntmps166
  go_wp2_with fail
  go_loopw [9] (fun i wr => ∃ k : Nat, k ≤ l.length ∧ i = .int .i64 k ∧ Hid (∀ j, j < k → F j = true) ∧ Below w.heap.size w wr) (fun i _ => l.length - (intOf i).toNat)
  case atStart => exact ⟨0, by omega, rfl, Lib.hid (fun j hj => by omega), Below.refl _ _⟩
  case round =>
    obtain ⟨k, hk, rfl, HA, hbw⟩ := hrel
    have HB := Lib.hid hbw
    clear hbw
    by_cases hlt : k < l.length
    · obtain rfl := HL.out.at' (by intro e; subst e; simp at hlt)
      have hlw := HL.out.below HB.out
      have c0 := hlw.c0 k hlt
      have c1 := hlw.c1 k hlt
      have c2 := hlw.c2 k hlt
      have c3 := hlw.c3 k hlt
      have HFk := Lib.hid (HF.out k hlt)
      generalize l[k] = x at *
      unfold Val.v at HFk
      clear hlw
      go_wp2_with fail
      refine (HFk.out.call _ (HB.out.alloc HB.out.size _)).mono ?_
      rintro e w1 ⟨rfl, hb1⟩
      have HB1 := Lib.hid ((HB.out.alloc HB.out.size _).trans (hb1.mono (HB.out.alloc HB.out.size _).size))
      clear hb1 HFk c0 c1 c2 c3
      cases hFk : F k
      · go_wp2_with fail
        go_ret
        exact ⟨vret_int (mayB_arg hlt hFk), HB1.out⟩
      · have HFk := Lib.hid hFk
        clear hFk
        go_wp2_with fail
        go_roundw
        case rel => exact ⟨k + 1, by omega, by go_num, Lib.hid (ext_ok HA.out HFk.out), HB1.out⟩
        case measure => simp [intOf]; omega
    · obtain rfl : k = l.length := by omega
      have HB0 := HB
      clear HB
      go_wp2_with fail
      go_loopw [19] (fun i wr => ∃ k : Nat, k ≤ l.length ∧ i = .int .i64 k ∧ Hid (∀ j, j < k → kindOk l[0]! l[j]! = true) ∧ Below w.heap.size w wr) (fun i _ => l.length - (intOf i).toNat)
      case atStart => exact ⟨0, by omega, rfl, Lib.hid (fun j hj => by omega), HB0.out⟩
      clear HB0 hlt hk
      case round =>
        obtain ⟨k, hk, rfl, HK, hbw⟩ := hrel
        have HB := Lib.hid hbw
        clear hbw
        by_cases hlt : k < l.length
        · obtain rfl := HL.out.at' (by intro e; subst e; simp at hlt)
          have hlw := HL.out.below HB.out
          obtain ⟨x, hX⟩ : ∃ x, l[k]! = x := ⟨_, rfl⟩
          obtain ⟨h, hH⟩ : ∃ h, l[0]! = h := ⟨_, rfl⟩
          have e : x = l[k] := by rw [← hX]; exact getElem!_pos l k hlt
          have c0 := hlw.c0 k hlt
          have c1 := hlw.c1 k hlt
          have c2 := hlw.c2 k hlt
          have c3 := hlw.c3 k hlt
          rw [← e] at c0 c1 c2 c3
          have HX := Lib.hid hX
          have HH := Lib.hid hH
          clear e hlw hX hH
          go_wp2_with fail
          clear c0 c1 c2 c3
          generalize hW : World.alloc _ _ = W
          have hbW : Below w.heap.size w W := by rw [← hW]; exact HB.out.alloc HB.out.size _
          have hblk : W.heap[wr.heap.size]? = some (.cells #[.int .i64 x.k, .int .i64 x.i, .string x.s, .slice x.a x.n x.c] 24 (0, 0)) := by rw [← hW]; exact heap_alloc_new _ _
          have HBW := Lib.hid hbW
          have p0 := fun m : Bl W => (cells4 hblk m).1
          have q0 := fun m : Bl W => (HL.out.cells hbW 0 (by omega) m).1
          rw [HH.out] at q0
          simp only [Nat.zero_mul, Nat.add_zero] at q0
          clear hW hbW hblk
          cases hx0 : x.k == 0
          case true =>
            refine wp_region_quietB (by kernel_rfl) (by kernel_rfl) ?_
            iterate 17 (go_big_quiet_step (fail))
            refine wpQuiet_nil ?_
            intro m
            have HBM := Lib.hid (HBW.out.trans (m.below.mono HBW.out.size))
            clear p0 q0
            go_wp2_with fail
            go_ret
            exact ⟨vret_int (mayB_type HA.out hlt (by rw [HX.out, HH.out]; simp [kindOk, hx0])), HBM.out⟩
          cases hx5 : x.k == 5
          case true =>
            refine wp_region_quietB (by kernel_rfl) (by kernel_rfl) ?_
            iterate 17 (go_big_quiet_step (fail))
            refine wpQuiet_nil ?_
            intro m
            have HBM := Lib.hid (HBW.out.trans (m.below.mono HBW.out.size))
            clear p0 q0
            go_wp2_with fail
            go_ret
            exact ⟨vret_int (mayB_type HA.out hlt (by rw [HX.out, HH.out]; simp [kindOk, hx5])), HBM.out⟩
          cases hxh : x.k != h.k
          case true =>
            refine wp_region_quietB (by kernel_rfl) (by kernel_rfl) ?_
            iterate 17 (go_big_quiet_step (fail))
            refine wpQuiet_nil ?_
            intro m
            have HBM := Lib.hid (HBW.out.trans (m.below.mono HBW.out.size))
            clear p0 q0
            go_wp2_with fail
            go_ret
            exact ⟨vret_int (mayB_type HA.out hlt (by rw [HX.out, HH.out]; simp [kindOk, show (x.k == h.k) = false by simpa using hxh])), HBM.out⟩
          refine wp_region_quietB (by kernel_rfl) (by kernel_rfl) ?_
          iterate 17 (go_big_quiet_step (fail))
          refine wpQuiet_nil ?_
          intro m
          have HBM := Lib.hid (HBW.out.trans (m.below.mono HBW.out.size))
          clear p0 q0
          go_wp2_with fail
          go_roundw
          case rel => exact ⟨k + 1, by omega, by go_num, Lib.hid (ext_ok HK.out (by rw [HX.out, HH.out]; simp [kindOk, hx0, hx5, show (x.k == h.k) = true by simpa using hxh])), HBM.out⟩
          case measure => simp [intOf]; omega
        · obtain rfl : k = l.length := by omega
          go_wp2_with fail
          go_ret
          exact ⟨vret_int (mayB_yes HA.out HK.out), HB.out⟩
end Go.Proofs.YtllgodaphoncnaaGreatDoor
namespace Go.Proofs.YtllgodaphoncnaaGreatDoor
open Go RowKit

section Det
variable {P : Program}
set_option maxRecDepth 100000 in
theorem runN_add (m : Machine) (a b : Nat) (m1 : Machine) (h : runN P a m = .next m1) : runN P (a + b) m = runN P b m1 := by
  induction a generalizing m with
  | zero => simp only [runN, Stepped.next.injEq] at h; subst h; rw [Nat.zero_add]
  | succ a ih =>
    rw [show a + 1 + b = (a + b) + 1 by omega]
    simp only [runN] at h ⊢
    cases hs : step P m with
    | next m2 => rw [hs] at h; exact ih m2 h
    | _ => rw [hs] at h; cases h
/-- a caller that ends at once -/
def deadEnd (P : Program) : Frame := { fn := P.funcs.size, tmps := #[], todo := [], defers := [], mode := .returning, kind := .report }
set_option maxRecDepth 100000 in
theorem step_deadEnd (w : World) : ∀ m, step P (lone (deadEnd P) [] w) ≠ .next m := by
  intro m h
  have : ∃ o, step P (lone (deadEnd P) [] w) = .ended o w := ⟨_, step_lone_ended (by simp [stepG, deadEnd, unwind, doReturn]; rfl)⟩
  obtain ⟨o, ho⟩ := this
  rw [ho] at h; cases h
set_option maxRecDepth 100000 in
theorem runN_deadEnd {w : World} {n : Nat} {m : Machine} (h : runN P n (lone (deadEnd P) [] w) = .next m) : m = lone (deadEnd P) [] w := by
  cases n with
  | zero => simp only [runN, Stepped.next.injEq] at h; exact h.symm
  | succ n =>
    simp only [runN] at h
    cases hs : step P (lone (deadEnd P) [] w) with
    | next m2 => exact absurd hs (step_deadEnd w m2)
    | _ => rw [hs] at h; cases h
set_option maxRecDepth 100000 in
theorem det_le {m : Machine} {fr1 fr2 : Frame} {w1 w2 : World} {v1 v2 : Value} {n d : Nat} (h1 : runN P n m = .next (lone fr1 [deadEnd P] w1)) (h2 : runN P (n + d) m = .next (lone fr2 [deadEnd P] w2))
    (l1 : fr1.leaving P w1 (.returned v1)) (l2 : fr2.leaving P w2 (.returned v2)) : v1 = v2 ∧ w1 = w2 := by
  rw [runN_add m n d _ h1] at h2
  cases d with
  | zero =>
    simp only [runN, Stepped.next.injEq] at h2
    unfold lone at h2
    simp only [Machine.mk.injEq, Array.mk.injEq, List.cons.injEq, Goroutine.mk.injEq, and_true] at h2
    obtain ⟨rfl, rfl⟩ : w1 = w2 ∧ fr1 = fr2 := by
      exact ⟨h2.1, by simpa using h2.2⟩
    obtain ⟨_, _, _, fn, hf, hr⟩ := l1
    obtain ⟨_, _, _, fn', hf', hr'⟩ := l2
    rw [hf] at hf'; cases hf'
    rw [hr] at hr'
    cases hr'
    exact ⟨rfl, rfl⟩
  | succ d =>
    simp only [runN, step_leave_returned l1] at h2
    have := runN_deadEnd (show runN P d (lone (deadEnd P) [] w1) = _ from h2)
    unfold lone at this
    simp at this
set_option maxRecDepth 100000 in
/-- two contracts of one call speak of one ending -/
theorem calls_det {f : FuncId} {args : Array Value} {w : World} {v1 v2 : Value} {R1 R2 : World → Prop} (h1 : Calls P f args w fun e w' => e = .returned v1 ∧ R1 w') (h2 : Calls P f args w fun e w' => e = .returned v2 ∧ R2 w') : v1 = v2 := by
  obtain ⟨_, w1, fr1, ⟨rfl, _⟩, ⟨n1, c1⟩, _, l1⟩ := h1 [deadEnd P]
  obtain ⟨_, w2, fr2, ⟨rfl, _⟩, ⟨n2, c2⟩, _, l2⟩ := h2 [deadEnd P]
  rcases Nat.le_total n1 n2 with h | h
  · obtain ⟨d, rfl⟩ := Nat.exists_eq_add_of_le h
    exact (det_le c1 c2 l1 l2).1
  · obtain ⟨d, rfl⟩ := Nat.exists_eq_add_of_le h
    exact (det_le c2 c1 l2 l1).1.symm
end Det

section Calm
variable {P : Program} {ops : Array Oper} {w0 : World}

/-- what stays when only new things are made -/
structure Lasting (w0 : World) (R : World → Prop) : Prop where
  on : ∀ w w', R w → Below w.heap.size w w' → R w'
  some : ∃ w, Below w0.heap.size w0 w ∧ R w
/-- a world in which every block of w0 is as it was, and R holds -/
structure BlR (w0 : World) (R : World → Prop) where
  wr : World
  below : Below w0.heap.size w0 wr
  holds : R wr
/-- the lexical walk; callees keep all that they find -/
def wpCalm (P : Program) (w0 : World) (Q : Act → Prop) : List Oper → Act → Prop
  | [], a => Q a
  | o :: rest, a => ∃ v, (∀ w, Below w0.heap.size w0 w → o.quietAt P a (Below w.heap.size w) w v) ∧ wpCalm P w0 Q rest (a.put o.dst v)

set_option maxRecDepth 100000 in
theorem quietAt_det {o : Oper} {a : Act} {w : World} {C1 C2 : World → Prop} {v1 v2 : Value} (h1 : o.quietAt P a C1 w v1) (h2 : o.quietAt P a C2 w v2) : v1 = v2 := by
  unfold Oper.quietAt at h1 h2
  generalize (execOp a.eval o).run P w = r at *
  cases r with
  | ok n w' =>
    cases n <;> simp only [Oper.quietUpon] at h1 h2
    case value u => exact h1.2.symm.trans h2.2
    case skip => exact h1.2.trans h2.2.symm
    case enter f args => exact calls_det h1.2 h2.2
  | halt x w' => simp only [Oper.quietUpon] at h1

set_option maxRecDepth 100000 in
theorem lasting_true (w0 : World) : Lasting w0 fun _ => True := ⟨fun _ _ _ _ => trivial, w0, Below.refl _ _, trivial⟩
set_option maxRecDepth 100000 in
theorem lasting_below {w0 w : World} (h : Below w0.heap.size w0 w) : Lasting w0 (Below w.heap.size w) :=
  ⟨fun _ _ h1 h2 => h1.trans (h2.mono h1.size), w, h, Below.refl _ _⟩

set_option maxRecDepth 100000 in
theorem quietAt_mono {o : Oper} {a : Act} {w : World} {C1 C2 : World → Prop} {v : Value} (h : o.quietAt P a C1 w v) (hc : ∀ w', C1 w' → C2 w') : o.quietAt P a C2 w v := by
  unfold Oper.quietAt at *
  generalize (execOp a.eval o).run P w = r at *
  cases r with
  | ok n w' =>
    cases n <;> simp only [Oper.quietUpon] at h ⊢
    case value u => exact h
    case skip => exact h
    case enter f args => exact ⟨h.1, h.2.mono fun _ _ ⟨h1, h2⟩ => ⟨h1, hc _ h2⟩⟩
  | halt x w' => simp only [Oper.quietUpon] at h

set_option maxRecDepth 100000 in
theorem wpCalm_of_quiet {Q : Act → Prop} : ∀ (l : List Oper) (a : Act), (∀ o ∈ l, o.guard = none) →
    (∀ R, Lasting w0 R → wpQuiet P ops (fun w' => ∃ m : BlR w0 R, w' = m.wr) Q l a) → wpCalm P w0 Q l a
  | [], a, _, h => h _ (lasting_true w0)
  | o :: l, a, hg, h => by
    have hw : Region.wanted o (yielded ops a.tmps) = true := by simp [Region.wanted, hg o (by simp)]
    have h' : ∀ R, Lasting w0 R → o.quiet P a (fun w' => ∃ m : BlR w0 R, w' = m.wr) (wpQuiet P ops (fun w' => ∃ m : BlR w0 R, w' = m.wr) Q l) := fun R hR => by
      have := h R hR
      simp only [wpQuiet, hw, if_true] at this
      exact this
    obtain ⟨v, hv, _⟩ := h' _ (lasting_true w0)
    have same : ∀ R, Lasting w0 R → (∀ w, (∃ m : BlR w0 R, w = m.wr) → o.quietAt P a (fun w' => ∃ m : BlR w0 R, w' = m.wr) w v) ∧ wpQuiet P ops (fun w' => ∃ m : BlR w0 R, w' = m.wr) Q l (a.put o.dst v) := fun R hR => by
      obtain ⟨v', hv', hn⟩ := h' R hR
      obtain ⟨w, hb, hr⟩ := hR.some
      obtain rfl := quietAt_det (hv w ⟨⟨w, hb, trivial⟩, rfl⟩) (hv' w ⟨⟨w, hb, hr⟩, rfl⟩)
      exact ⟨hv', hn⟩
    refine ⟨v, fun w hb => ?_, wpCalm_of_quiet l _ (fun o ho => hg o (by simp [ho])) fun R hR => (same R hR).2⟩
    exact quietAt_mono ((same _ (lasting_below hb)).1 w ⟨⟨w, hb, Below.refl _ _⟩, rfl⟩) fun w' ⟨m, hm⟩ => hm ▸ m.holds

set_option maxRecDepth 100000 in
/-- a callee's contract, met in such a world -/
theorem Calls.quiet_r {f : FuncId} {args : Array Value} {R : World → Prop} (hR : Lasting w0 R) {m : BlR w0 R} {v : Value}
    (h : Calls P f args m.wr fun e w' => e = .returned v ∧ Below m.wr.heap.size m.wr w') : Calls P f args m.wr fun e w'' => e = .returned v ∧ ∃ m : BlR w0 R, w'' = m.wr :=
  h.mono fun _ w' ⟨he, hb⟩ => ⟨he, ⟨w', m.below.trans (hb.mono m.below.size), hR.on _ _ m.holds hb⟩, rfl⟩
end Calm
end Go.Proofs.YtllgodaphoncnaaGreatDoor
