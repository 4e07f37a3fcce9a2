/- A region that draws its order: reads and callees that keep what is there, blocks that are new, stores into them; then a tail in one forced order. One walk of the text's order serves every order; The same: the theorem. -/
import Derived.Test.YtllgodaphoncnaaGreatDoorQTail
namespace Go.Proofs.YtllgodaphoncnaaGreatDoor
open Go RowKit

section Det
variable {P : Program}
set_option maxRecDepth 100000 in
theorem runN_add (m : Machine) (a b : Nat) (m1 : Machine) (h : runN P a m = .next m1) : runN P (a + b) m = runN P b m1 := by
  induction a generalizing m with
  | zero => simp only [runN, Stepped.next.injEq] at h; subst h; rw [Nat.zero_add]
  | succ a ih =>
    rw [show a + 1 + b = (a + b) + 1 by omega]
    simp only [runN] at h ⊢
    cases hs : step P m with
    | next m2 => rw [hs] at h; exact ih m2 h
    | _ => rw [hs] at h; cases h
/-- a caller that ends at once -/
def deadEnd (P : Program) : Frame := { fn := P.funcs.size, tmps := #[], todo := [], defers := [], mode := .returning, kind := .report }
set_option maxRecDepth 100000 in
theorem step_deadEnd (w : World) : ∀ m, step P (lone (deadEnd P) [] w) ≠ .next m := by
  intro m h
  have : ∃ o, step P (lone (deadEnd P) [] w) = .ended o w := ⟨_, step_lone_ended (by simp [stepG, deadEnd, unwind, doReturn]; rfl)⟩
  obtain ⟨o, ho⟩ := this
  rw [ho] at h; cases h
set_option maxRecDepth 100000 in
theorem runN_deadEnd {w : World} {n : Nat} {m : Machine} (h : runN P n (lone (deadEnd P) [] w) = .next m) : m = lone (deadEnd P) [] w := by
  cases n with
  | zero => simp only [runN, Stepped.next.injEq] at h; exact h.symm
  | succ n =>
    simp only [runN] at h
    cases hs : step P (lone (deadEnd P) [] w) with
    | next m2 => exact absurd hs (step_deadEnd w m2)
    | _ => rw [hs] at h; cases h
set_option maxRecDepth 100000 in
theorem det_le {m : Machine} {fr1 fr2 : Frame} {w1 w2 : World} {v1 v2 : Value} {n d : Nat} (h1 : runN P n m = .next (lone fr1 [deadEnd P] w1)) (h2 : runN P (n + d) m = .next (lone fr2 [deadEnd P] w2))
    (l1 : fr1.leaving P w1 (.returned v1)) (l2 : fr2.leaving P w2 (.returned v2)) : v1 = v2 ∧ w1 = w2 := by
  rw [runN_add m n d _ h1] at h2
  cases d with
  | zero =>
    simp only [runN, Stepped.next.injEq] at h2
    unfold lone at h2
    simp only [Machine.mk.injEq, Array.mk.injEq, List.cons.injEq, Goroutine.mk.injEq, and_true] at h2
    obtain ⟨rfl, rfl⟩ : w1 = w2 ∧ fr1 = fr2 := by
      exact ⟨h2.1, by simpa using h2.2⟩
    obtain ⟨_, _, _, fn, hf, hr⟩ := l1
    obtain ⟨_, _, _, fn', hf', hr'⟩ := l2
    rw [hf] at hf'; cases hf'
    rw [hr] at hr'
    cases hr'
    exact ⟨rfl, rfl⟩
  | succ d =>
    simp only [runN, step_leave_returned l1] at h2
    have := runN_deadEnd (show runN P d (lone (deadEnd P) [] w1) = _ from h2)
    unfold lone at this
    simp at this
set_option maxRecDepth 100000 in
/-- two contracts of one call speak of one ending -/
theorem calls_det {f : FuncId} {args : Array Value} {w : World} {v1 v2 : Value} {R1 R2 : World → Prop} (h1 : Calls P f args w fun e w' => e = .returned v1 ∧ R1 w') (h2 : Calls P f args w fun e w' => e = .returned v2 ∧ R2 w') : v1 = v2 := by
  obtain ⟨_, w1, fr1, ⟨rfl, _⟩, ⟨n1, c1⟩, _, l1⟩ := h1 [deadEnd P]
  obtain ⟨_, w2, fr2, ⟨rfl, _⟩, ⟨n2, c2⟩, _, l2⟩ := h2 [deadEnd P]
  rcases Nat.le_total n1 n2 with h | h
  · obtain ⟨d, rfl⟩ := Nat.exists_eq_add_of_le h
    exact (det_le c1 c2 l1 l2).1
  · obtain ⟨d, rfl⟩ := Nat.exists_eq_add_of_le h
    exact (det_le c2 c1 l2 l1).1.symm
end Det

section Calm
variable {P : Program} {ops : Array Oper} {w0 : World}

/-- what stays when only new things are made -/
structure Lasting (w0 : World) (R : World → Prop) : Prop where
  on : ∀ w w', R w → Below w.heap.size w w' → R w'
  some : ∃ w, Below w0.heap.size w0 w ∧ R w
/-- a world in which every block of w0 is as it was, and R holds -/
structure BlR (w0 : World) (R : World → Prop) where
  wr : World
  below : Below w0.heap.size w0 wr
  holds : R wr
/-- the lexical walk; callees keep all that they find -/
def wpCalm (P : Program) (w0 : World) (Q : Act → Prop) : List Oper → Act → Prop
  | [], a => Q a
  | o :: rest, a => ∃ v, (∀ w, Below w0.heap.size w0 w → o.quietAt P a (Below w.heap.size w) w v) ∧ wpCalm P w0 Q rest (a.put o.dst v)

set_option maxRecDepth 100000 in
theorem quietAt_det {o : Oper} {a : Act} {w : World} {C1 C2 : World → Prop} {v1 v2 : Value} (h1 : o.quietAt P a C1 w v1) (h2 : o.quietAt P a C2 w v2) : v1 = v2 := by
  unfold Oper.quietAt at h1 h2
  generalize (execOp a.eval o).run P w = r at *
  cases r with
  | ok n w' =>
    cases n <;> simp only [Oper.quietUpon] at h1 h2
    case value u => exact h1.2.symm.trans h2.2
    case skip => exact h1.2.trans h2.2.symm
    case enter f args => exact calls_det h1.2 h2.2
  | halt x w' => simp only [Oper.quietUpon] at h1

set_option maxRecDepth 100000 in
theorem lasting_true (w0 : World) : Lasting w0 fun _ => True := ⟨fun _ _ _ _ => trivial, w0, Below.refl _ _, trivial⟩
set_option maxRecDepth 100000 in
theorem lasting_below {w0 w : World} (h : Below w0.heap.size w0 w) : Lasting w0 (Below w.heap.size w) :=
  ⟨fun _ _ h1 h2 => h1.trans (h2.mono h1.size), w, h, Below.refl _ _⟩

set_option maxRecDepth 100000 in
theorem quietAt_mono {o : Oper} {a : Act} {w : World} {C1 C2 : World → Prop} {v : Value} (h : o.quietAt P a C1 w v) (hc : ∀ w', C1 w' → C2 w') : o.quietAt P a C2 w v := by
  unfold Oper.quietAt at *
  generalize (execOp a.eval o).run P w = r at *
  cases r with
  | ok n w' =>
    cases n <;> simp only [Oper.quietUpon] at h ⊢
    case value u => exact h
    case skip => exact h
    case enter f args => exact ⟨h.1, h.2.mono fun _ _ ⟨h1, h2⟩ => ⟨h1, hc _ h2⟩⟩
  | halt x w' => simp only [Oper.quietUpon] at h

set_option maxRecDepth 100000 in
theorem wpCalm_of_quiet {Q : Act → Prop} : ∀ (l : List Oper) (a : Act), (∀ o ∈ l, o.guard = none) →
    (∀ R, Lasting w0 R → wpQuiet P ops (fun w' => ∃ m : BlR w0 R, w' = m.wr) Q l a) → wpCalm P w0 Q l a
  | [], a, _, h => h _ (lasting_true w0)
  | o :: l, a, hg, h => by
    have hw : Region.wanted o (yielded ops a.tmps) = true := by simp [Region.wanted, hg o (by simp)]
    have h' : ∀ R, Lasting w0 R → o.quiet P a (fun w' => ∃ m : BlR w0 R, w' = m.wr) (wpQuiet P ops (fun w' => ∃ m : BlR w0 R, w' = m.wr) Q l) := fun R hR => by
      have := h R hR
      simp only [wpQuiet, hw, if_true] at this
      exact this
    obtain ⟨v, hv, _⟩ := h' _ (lasting_true w0)
    have same : ∀ R, Lasting w0 R → (∀ w, (∃ m : BlR w0 R, w = m.wr) → o.quietAt P a (fun w' => ∃ m : BlR w0 R, w' = m.wr) w v) ∧ wpQuiet P ops (fun w' => ∃ m : BlR w0 R, w' = m.wr) Q l (a.put o.dst v) := fun R hR => by
      obtain ⟨v', hv', hn⟩ := h' R hR
      obtain ⟨w, hb, hr⟩ := hR.some
      obtain rfl := quietAt_det (hv w ⟨⟨w, hb, trivial⟩, rfl⟩) (hv' w ⟨⟨w, hb, hr⟩, rfl⟩)
      exact ⟨hv', hn⟩
    refine ⟨v, fun w hb => ?_, wpCalm_of_quiet l _ (fun o ho => hg o (by simp [ho])) fun R hR => (same R hR).2⟩
    exact quietAt_mono ((same _ (lasting_below hb)).1 w ⟨⟨w, hb, Below.refl _ _⟩, rfl⟩) fun w' ⟨m, hm⟩ => hm ▸ m.holds

set_option maxRecDepth 100000 in
/-- a callee's contract, met in such a world -/
theorem Calls.quiet_r {f : FuncId} {args : Array Value} {R : World → Prop} (hR : Lasting w0 R) {m : BlR w0 R} {v : Value}
    (h : Calls P f args m.wr fun e w' => e = .returned v ∧ Below m.wr.heap.size m.wr w') : Calls P f args m.wr fun e w'' => e = .returned v ∧ ∃ m : BlR w0 R, w'' = m.wr :=
  h.mono fun _ w' ⟨he, hb⟩ => ⟨he, ⟨w', m.below.trans (hb.mono m.below.size), hR.on _ _ m.holds hb⟩, rfl⟩
end Calm
end Go.Proofs.YtllgodaphoncnaaGreatDoor
namespace Go.Proofs.YtllgodaphoncnaaGreatDoor
open Go RowKit

/-- what an operation of a region's head is: one that keeps all, one that makes a block, one that fills the block that operation t made -/
inductive HK where
  | calm | fresh | init (t : Nat)
deriving DecidableEq

section Acts
variable {ops : Array Oper} {a0 : Act}
def dstAt (ops : Array Oper) (k : Nat) : Option Tmp := (ops[k]?).bind (·.dst)
def actOf (ops : Array Oper) (a0 : Act) (vals : Nat → Value) (done : Nat → Bool) : Nat → Act
  | 0 => a0
  | k + 1 => if done k then (actOf ops a0 vals done k).put (dstAt ops k) (vals k) else actOf ops a0 vals done k

set_option maxRecDepth 100000 in
theorem actOf_congr {vals vals' : Nat → Value} {done done' : Nat → Bool} : ∀ (n : Nat), (∀ k, k < n → done k = done' k ∧ (done k = true → vals k = vals' k)) → actOf ops a0 vals done n = actOf ops a0 vals' done' n
  | 0, _ => rfl
  | n + 1, h => by
    obtain ⟨h1, h2⟩ := h n (by omega)
    simp only [actOf, actOf_congr n (fun k hk => h k (by omega)), ← h1]
    cases hd : done n with
    | false => rfl
    | true => simp only [if_true, h2 hd]
set_option maxRecDepth 100000 in
theorem actOf_set {vals : Nat → Value} {done : Nat → Bool} {i : Nat} (hi : done i = false) : ∀ (n : Nat), i < n → (∀ k, k < n → k ≠ i → ∀ d, dstAt ops i = some d → dstAt ops k ≠ some d) →
    actOf ops a0 vals (fun k => k == i || done k) n = (actOf ops a0 vals done n).put (dstAt ops i) (vals i)
  | 0, h, _ => by omega
  | n + 1, h, hd => by
    simp only [actOf]
    by_cases hin : n = i
    · subst hin
      simp only [beq_self_eq_true, Bool.true_or, if_true, hi]
      congr 1
      refine actOf_congr n fun k hk => ⟨?_, fun _ => rfl⟩
      simp [show k ≠ n by omega]
    · rw [actOf_set hi n (by omega) (fun k hk => hd k (by omega))]
      simp only [show (n == i) = false by simp [hin], Bool.false_or]
      cases hn : done n with
      | false => rfl
      | true =>
        simp only [if_true]
        exact Act.put_comm _ _ _ (fun d hdi => hd n (by omega) hin d hdi)
set_option maxRecDepth 100000 in
theorem put_size (a : Act) (d : Option Tmp) (v : Value) : (a.put d v).tmps.size = a.tmps.size := by cases d <;> simp [Act.put]
set_option maxRecDepth 100000 in
theorem actOf_size {vals : Nat → Value} {done : Nat → Bool} : ∀ n, (actOf ops a0 vals done n).tmps.size = a0.tmps.size
  | 0 => rfl
  | n + 1 => by
    simp only [actOf]
    cases done n with
    | false => exact actOf_size n
    | true => simp only [if_true, put_size]; exact actOf_size n
set_option maxRecDepth 100000 in
theorem eval_put_same {a b : Act} (h : a.tmps.size = b.tmps.size) (t : Tmp) (v : Value) : (a.put (some t) v).eval (.tmp t) = (b.put (some t) v).eval (.tmp t) := by
  simp only [Act.eval, Act.put, Array.getD_eq_getD_getElem?, Array.getElem?_setIfInBounds]
  simp [h]
set_option maxRecDepth 100000 in
theorem actOf_eval_none {vals : Nat → Value} {done : Nat → Bool} {t : Tmp} : ∀ n, (∀ k, k < n → done k = true → dstAt ops k ≠ some t) → (actOf ops a0 vals done n).eval (.tmp t) = a0.eval (.tmp t)
  | 0, _ => rfl
  | n + 1, h => by
    simp only [actOf]
    cases hn : done n with
    | false => exact actOf_eval_none n fun k hk => h k (by omega)
    | true =>
      simp only [if_true]
      rw [Act.eval_put fun d hd e => h n (by omega) hn (by rw [hd]; injection e with e; rw [e])]
      exact actOf_eval_none n fun k hk => h k (by omega)
set_option maxRecDepth 100000 in
theorem actOf_eval_some {vals : Nat → Value} {done : Nat → Bool} {t : Tmp} {j : Nat} (hj : done j = true) (ht : dstAt ops j = some t) : ∀ n, j < n → (∀ k, k < n → k ≠ j → dstAt ops k ≠ some t) →
    (actOf ops a0 vals done n).eval (.tmp t) = (a0.put (some t) (vals j)).eval (.tmp t)
  | 0, h, _ => by omega
  | n + 1, h, hu => by
    simp only [actOf]
    by_cases hjn : j = n
    · subst hjn
      simp only [hj, if_true, ht]
      exact eval_put_same (actOf_size _) _ _
    · have ih := actOf_eval_some (vals := vals) hj ht n (by omega) fun k hk => hu k (by omega)
      cases hn : done n with
      | false => exact ih
      | true =>
        simp only [if_true]
        rw [Act.eval_put fun d hd e => hu n (by omega) (Ne.symm hjn) (by rw [hd]; injection e with e; rw [e])]
        exact ih
end Acts

section
variable {P : Program} {ops : Array Oper} {md : Region.Mode}

def calmL : List Oper → List HK → List Oper
  | o :: l, .calm :: ks => o :: calmL l ks
  | _ :: l, .fresh :: ks => calmL l ks
  | _ :: l, .init _ :: ks => calmL l ks
  | _, _ => []
def isCalm (ks : List HK) (k : Nat) : Bool := decide (ks[k]? = some .calm)

set_option maxRecDepth 100000 in
theorem walk_vals {w0 : World} {a0 : Act} {Q : Act → Prop} {ks : List HK} : ∀ (l : List Oper) (ks' : List HK) (k : Nat) (V0 : Nat → Value), l.length = ks'.length → (∀ j, j < l.length → l[j]? = ops[k + j]?) → (∀ j, ks'[j]? = ks[k + j]?) →
    wpCalm P w0 Q (calmL l ks') (actOf ops a0 V0 (isCalm ks) k) →
    ∃ V, (∀ j, j < k → V j = V0 j) ∧ (∀ i o, k ≤ i → ks[i]? = some .calm → ops[i]? = some o → ∀ w', Below w0.heap.size w0 w' → o.quietAt P (actOf ops a0 V (isCalm ks) i) (Below w'.heap.size w') w' (V i)) ∧ Q (actOf ops a0 V (isCalm ks) (k + l.length))
  | [], ks', k, V0, hlen, _, hk, h => by
    have : ks' = [] := by cases ks' with | nil => rfl | cons => simp at hlen
    subst this
    refine ⟨V0, fun _ _ => rfl, fun i o hi hc => ?_, by simpa [calmL, wpCalm] using h⟩
    have := hk (i - k)
    rw [show k + (i - k) = i by omega, hc] at this
    simp at this
  | o :: l, [], k, V0, hlen, _, _, _ => by simp at hlen
  | o :: l, q :: ks', k, V0, hlen, hl, hk, h => by
    have h0 : ops[k]? = some o := by simpa using (hl 0 (by simp)).symm
    have hk0 : ks[k]? = some q := by simpa using (hk 0).symm
    have hl' : ∀ j, j < l.length → l[j]? = ops[k + 1 + j]? := fun j hj => by have := hl (j + 1) (by simp; omega); simpa [Nat.add_assoc, Nat.add_comm 1 j] using this
    have hk' : ∀ j, ks'[j]? = ks[k + 1 + j]? := fun j => by have := hk (j + 1); simpa [Nat.add_assoc, Nat.add_comm 1 j] using this
    have hlen' : l.length = ks'.length := by simpa using hlen
    by_cases hq : q = .calm
    · subst hq
      simp only [calmL, wpCalm] at h
      obtain ⟨v, hv, hn⟩ := h
      have e1 : actOf ops a0 (fun j => if j = k then v else V0 j) (isCalm ks) k = actOf ops a0 V0 (isCalm ks) k := actOf_congr k fun j hj => ⟨rfl, fun _ => by simp [show j ≠ k by omega]⟩
      have e2 : actOf ops a0 (fun j => if j = k then v else V0 j) (isCalm ks) (k + 1) = (actOf ops a0 V0 (isCalm ks) k).put o.dst v := by
        simp only [actOf, e1, show isCalm ks k = true by simp [isCalm, hk0], if_true, dstAt, h0, Option.bind_some]
      obtain ⟨V, hV, hc, hQ⟩ := walk_vals (w0 := w0) (a0 := a0) (Q := Q) (ks := ks) l ks' (k + 1) (fun j => if j = k then v else V0 j) hlen' hl' hk' (by rw [e2]; exact hn)
      refine ⟨V, fun j hj => by rw [hV j (by omega)]; simp [show j ≠ k by omega], fun i oi hi hci hoi w' hb => ?_, by simpa [Nat.add_assoc, Nat.add_comm 1] using hQ⟩
      by_cases hik : i = k
      · subst hik
        rw [h0] at hoi; cases hoi
        have e3 : actOf ops a0 V (isCalm ks) i = actOf ops a0 V0 (isCalm ks) i := actOf_congr i fun j hj => ⟨rfl, fun _ => by rw [hV j (by omega)]; simp [show j ≠ i by omega]⟩
        rw [e3, hV i (by omega)]
        simpa using hv w' hb
      · exact hc i oi (by omega) hci hoi w' hb
    · have e2 : actOf ops a0 V0 (isCalm ks) (k + 1) = actOf ops a0 V0 (isCalm ks) k := by
        simp only [actOf, show isCalm ks k = false by simp [isCalm, hk0, hq]]; rfl
      have h' : wpCalm P w0 Q (calmL l ks') (actOf ops a0 V0 (isCalm ks) (k + 1)) := by
        rw [e2]
        cases q with
        | calm => exact absurd rfl hq
        | fresh => exact h
        | init t => exact h
      obtain ⟨V, hV, hc, hQ⟩ := walk_vals (w0 := w0) (a0 := a0) (Q := Q) (ks := ks) l ks' (k + 1) V0 hlen' hl' hk' h'
      refine ⟨V, fun j hj => hV j (by omega), fun i oi hi hci hoi w' hb => ?_, by simpa [Nat.add_assoc, Nat.add_comm 1] using hQ⟩
      by_cases hik : i = k
      · subst hik; rw [hk0] at hci; cases hci; exact absurd rfl hq
      · exact hc i oi (by omega) hci hoi w' hb

/-- operands that come from calm operations which are waited for -/
def operB (md : Region.Mode) (ops : Array Oper) (n : Nat) (ks : List HK) (i : Nat) (x : Operand) : Bool :=
  match x with
  | .tmp t => (List.range n).all fun j => dstAt ops j != some t || (isCalm ks j && decide (j < i) && Region.waitsFor md ops i j)
  | _ => true
def isPtr (ops : Array Oper) (t : Nat) (x : Operand) : Bool := match x with | .tmp d => decide (dstAt ops t = some d) | _ => false
def headB (md : Region.Mode) (ops : Array Oper) (n : Nat) (ks : List HK) (i : Nat) : Bool :=
  match ops[i]? with
  | none => false
  | some o => o.guard.isNone && (o.after.all fun e => !Region.binds md e || decide (e.on < i))
    && ((List.range n).all fun j => j == i || (match o.dst with | some d => dstAt ops j != some d | none => true))
    && match ks[i]? with
      | some (.init t) => o.dst.isNone && decide (t < n) && decide (ks[t]? = some .fresh) && Region.waitsFor md ops i t && (dstAt ops t).isSome
          && ((List.range n).all fun k => k == i || decide (ks[k]? ≠ some (.init t)))
          && o.op.operands.all fun x => isPtr ops t x || operB md ops n ks i x
      | some _ => o.op.operands.all fun x => operB md ops n ks i x
      | none => false
def freshB (md : Region.Mode) (ops : Array Oper) (n : Nat) (ks : List HK) : Bool :=
  Region.noSelect ops && decide (n < ops.size) && decide (ks.length = n) && Region.sinkB md ops n && Region.chainB md ops n
    && Region.seqB md ops (ops.size - n) n (List.replicate n true ++ List.replicate (ops.size - n) false).toArray
    && (List.range n).all fun i => headB md ops n ks i

/-- what headB says -/
structure HeadOk (md : Region.Mode) (ops : Array Oper) (n : Nat) (ks : List HK) (i : Nat) (o : Oper) : Prop where
  guard : o.guard = none
  order : ∀ e ∈ o.after, Region.binds md e = true → e.on < i
  dst : ∀ j, j < n → j ≠ i → ∀ d, o.dst = some d → dstAt ops j ≠ some d
  oper : (∀ t, ks[i]? ≠ some (.init t)) → ∀ x ∈ o.op.operands, operB md ops n ks i x = true
  init : ∀ t, ks[i]? = some (.init t) → o.dst = none ∧ t < n ∧ ks[t]? = some .fresh ∧ Region.waitsFor md ops i t = true ∧ (dstAt ops t).isSome = true ∧ (∀ k, k < n → k ≠ i → ks[k]? ≠ some (.init t)) ∧
    ∀ x ∈ o.op.operands, isPtr ops t x = true ∨ operB md ops n ks i x = true
set_option maxRecDepth 100000 in
theorem headB_spec {n i : Nat} {ks : List HK} (h : headB md ops n ks i = true) : ∃ o, ops[i]? = some o ∧ HeadOk md ops n ks i o := by
  unfold headB at h
  cases ho : ops[i]? with
  | none => simp [ho] at h
  | some o =>
    simp only [ho, Bool.and_eq_true, Option.isNone_iff_eq_none, List.all_eq_true, List.mem_range] at h
    obtain ⟨⟨⟨h1, h2⟩, h3⟩, h4⟩ := h
    refine ⟨o, rfl, h1, fun e he hb => ?_, fun j hj hne d hd => ?_, fun hni x hx => ?_, fun t ht => ?_⟩
    · have := Array.all_eq_true_iff_forall_mem.1 h2 e he
      simpa [hb] using this
    · have := h3 j hj
      simpa [hne, hd] using this
    · cases hk : ks[i]? with
      | none => simp [hk] at h4
      | some q =>
        cases q with
        | init t => exact absurd hk (hni t)
        | calm => simp only [hk] at h4; exact Array.all_eq_true_iff_forall_mem.1 h4 x hx
        | fresh => simp only [hk] at h4; exact Array.all_eq_true_iff_forall_mem.1 h4 x hx
    · simp only [ht, Bool.and_eq_true, Option.isNone_iff_eq_none, decide_eq_true_eq, List.all_eq_true, List.mem_range] at h4
      obtain ⟨⟨⟨⟨⟨⟨g1, g2⟩, g3⟩, g4⟩, g5⟩, g6⟩, g7⟩ := h4
      refine ⟨g1, g2, g3, g4, g5, fun k hk hne => ?_, fun x hx => ?_⟩
      · have := g6 k hk
        simpa [hne] using this
      · have := Array.all_eq_true_iff_forall_mem.1 g7 x hx
        simpa using this

/-- the number of operations of the head that are still to come -/
def cnt (listed : Array Bool) : Nat → Nat
  | 0 => 0
  | k + 1 => cnt listed k + if listed.getD k false then 0 else 1
set_option maxRecDepth 100000 in
theorem cnt_set {listed : Array Bool} {i : Nat} (hs : i < listed.size) (hi : listed.getD i false = false) : ∀ n, (i < n → cnt listed n = cnt (listed.setIfInBounds i true) n + 1) ∧ (n ≤ i → cnt listed n = cnt (listed.setIfInBounds i true) n)
  | 0 => ⟨fun h => by omega, fun _ => rfl⟩
  | n + 1 => by
    obtain ⟨h1, h2⟩ := cnt_set hs hi n
    refine ⟨fun h => ?_, fun h => ?_⟩
    · simp only [cnt]
      by_cases hin : i = n
      · subst hin
        have : (listed.setIfInBounds i true).getD i false = true := by simp [hs]
        rw [h2 (Nat.le_refl _), hi, this]; simp
      · rw [getD_set_ne false hin, h1 (by omega)]; omega
    · simp only [cnt]
      rw [getD_set_ne false (show i ≠ n by omega), h2 (by omega)]
set_option maxRecDepth 100000 in
theorem cnt_zero {listed : Array Bool} : ∀ n, cnt listed n = 0 → ∀ k, k < n → listed.getD k false = true
  | 0, _, k, hk => by omega
  | n + 1, h, k, hk => by
    simp only [cnt] at h
    have h1 : cnt listed n = 0 := by omega
    by_cases hkn : k = n
    · subst hkn
      cases hd : listed.getD k false with
      | true => rfl
      | false => rw [hd] at h; simp at h
    · exact cnt_zero n h1 k (by omega)
set_option maxRecDepth 100000 in
theorem cnt_none {listed : Array Bool} : ∀ n, cnt listed n ≠ 0 → ∃ k, k < n ∧ listed.getD k false = false ∧ ∀ j, j < k → listed.getD j false = true
  | 0, h => absurd rfl h
  | n + 1, h => by
    by_cases h1 : cnt listed n = 0
    · refine ⟨n, by omega, ?_, cnt_zero n h1⟩
      cases hd : listed.getD n false with
      | false => rfl
      | true => simp [cnt, h1, hd] at h
    · obtain ⟨k, hk, h2, h3⟩ := cnt_none n h1
      exact ⟨k, by omega, h2, h3⟩
set_option maxRecDepth 100000 in
theorem cnt_all (m : Nat) : ∀ n, cnt (Array.replicate m false) n = n
  | 0 => rfl
  | n + 1 => by rw [cnt, cnt_all m n, getD_replicate_false]; rfl

/-- what the operations of the head come to -/
def valF (ks : List HK) (V : Nat → Value) (fv : Nat → Nat → Value) (γ : Nat → Nat) (i : Nat) : Value :=
  match ks[i]? with
  | some .fresh => fv i (γ i)
  | some (.init _) => undef
  | _ => V i

/-- a world turned at one block -/
structure Set1 (G : Nat) (Y : Obj) (w w' : World) : Prop where
  os : w'.os = w.os
  tape : w'.tape = w.tape
  output : w'.output = w.output
  size : w'.heap.size = w.heap.size
  new : w'.heap[G]? = some Y
  old : ∀ k, k ≠ G → w'.heap[k]? = w.heap[k]?

/-- what is asked of the operations that make blocks and fill them -/
def obF (P : Program) (ops : Array Oper) (w0 : World) (aN : Act) (X Y : Nat → Obj) (fv : Nat → Nat → Value) (ks0 : List HK) : List Oper → List HK → Nat → Prop
  | o :: l, .fresh :: ks, i => ((∀ (a' : Act) (w' : World), Below w0.heap.size w0 w' → (∀ x ∈ o.op.operands, a'.eval x = aN.eval x) → (execOp a'.eval o).run P w' = .ok (.value (fv i w'.heap.size)) (w'.alloc (X i))) ∧ (Y i = X i ∨ ∃ k, k < ks0.length ∧ ks0[k]? = some (.init i))) ∧ obF P ops w0 aN X Y fv ks0 l ks (i + 1)
  | o :: l, .init t :: ks, i => (∀ (a' : Act) (w' : World) (G : Nat), Below w0.heap.size w0 w' → (∀ x ∈ o.op.operands, isPtr ops t x = true ∨ a'.eval x = aN.eval x) → (∀ d, dstAt ops t = some d → a'.eval (.tmp d) = fv t G) → w'.heap[G]? = some (X t) →
      ∃ w'', (execOp a'.eval o).run P w' = .ok .skip w'' ∧ Set1 G (Y t) w' w'') ∧ obF P ops w0 aN X Y fv ks0 l ks (i + 1)
  | _ :: l, .calm :: ks, i => obF P ops w0 aN X Y fv ks0 l ks (i + 1)
  | _, _, _ => True
set_option maxRecDepth 100000 in
theorem obF_at {w0 : World} {aN : Act} {X Y : Nat → Obj} {fv : Nat → Nat → Value} {ks0 : List HK} : ∀ (l : List Oper) (ks : List HK) (k : Nat), obF P ops w0 aN X Y fv ks0 l ks k → ∀ i o q, l[i]? = some o → ks[i]? = some q → obF P ops w0 aN X Y fv ks0 [o] [q] (k + i)
  | [], _, _, _, i, o, q, h, _ => by simp at h
  | _ :: _, [], _, _, i, o, q, _, h => by simp at h
  | o :: l, q :: ks, k, h, i, o', q', ho, hq => by
    cases i with
    | zero =>
      simp only [List.getElem?_cons_zero, Option.some.injEq] at ho hq
      subst ho; subst hq
      cases q with
      | calm => trivial
      | fresh => exact ⟨h.1, trivial⟩
      | init t => exact ⟨h.1, trivial⟩
    | succ i =>
      rw [show k + (i + 1) = (k + 1) + i by omega]
      refine obF_at l ks (k + 1) ?_ i o' q' (by simpa using ho) (by simpa using hq)
      cases q with
      | calm => exact h
      | fresh => exact h.2
      | init t => exact h.2

set_option maxRecDepth 100000 in
theorem wp_of_quietAt {o : Oper} {a : Act} {w : World} {C : World → Prop} {v : Value} {K : Act → World → Prop} {Q : Exit → Act → World → Prop} (hw : C w) (h : o.quietAt P a C w v) (hk : ∀ w', C w' → K (a.put o.dst v) w') : o.wp P a w K Q := by
  unfold Oper.quietAt at h
  unfold Oper.wp
  generalize (execOp a.eval o).run P w = r at *
  cases r with
  | ok n w' =>
    cases n <;> simp only [Oper.quietUpon] at h <;> simp only [Oper.upon]
    case value u => obtain ⟨e1, e2⟩ := h; rw [e1, e2]; exact hk _ hw
    case skip => obtain ⟨e1, e2⟩ := h; rw [e1, ← e2]; exact hk _ hw
    case enter f args =>
      obtain ⟨e1, hc⟩ := h
      rw [e1]
      exact hc.mono fun e w'' ⟨he, hw''⟩ => by subst he; exact hk _ hw''
  | halt x w' => simp only [Oper.quietUpon] at h
end
end Go.Proofs.YtllgodaphoncnaaGreatDoor
