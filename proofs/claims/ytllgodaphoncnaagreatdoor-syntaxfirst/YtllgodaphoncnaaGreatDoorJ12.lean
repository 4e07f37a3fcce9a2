/- The same: the theorem; The same: every order. -/
import Derived.Test.YtllgodaphoncnaaGreatDoorJ11
namespace Go.Proofs.YtllgodaphoncnaaGreatDoor
open Go RowKit

/-- what an operation of a region's head is: one that keeps all, one that makes a block, one that fills the block that operation t made -/
inductive HK where
  | calm | fresh | init (t : Nat)
deriving DecidableEq

section Acts
variable {ops : Array Oper} {a0 : Act}
def dstAt (ops : Array Oper) (k : Nat) : Option Tmp := (ops[k]?).bind (·.dst)
def actOf (ops : Array Oper) (a0 : Act) (vals : Nat → Value) (done : Nat → Bool) : Nat → Act
  | 0 => a0
  | k + 1 => if done k then (actOf ops a0 vals done k).put (dstAt ops k) (vals k) else actOf ops a0 vals done k

set_option maxRecDepth 100000 in
theorem actOf_congr {vals vals' : Nat → Value} {done done' : Nat → Bool} : ∀ (n : Nat), (∀ k, k < n → done k = done' k ∧ (done k = true → vals k = vals' k)) → actOf ops a0 vals done n = actOf ops a0 vals' done' n
  | 0, _ => rfl
  | n + 1, h => by
    obtain ⟨h1, h2⟩ := h n (by omega)
    simp only [actOf, actOf_congr n (fun k hk => h k (by omega)), ← h1]
    cases hd : done n with
    | false => rfl
    | true => simp only [if_true, h2 hd]
set_option maxRecDepth 100000 in
theorem actOf_set {vals : Nat → Value} {done : Nat → Bool} {i : Nat} (hi : done i = false) : ∀ (n : Nat), i < n → (∀ k, k < n → k ≠ i → ∀ d, dstAt ops i = some d → dstAt ops k ≠ some d) →
    actOf ops a0 vals (fun k => k == i || done k) n = (actOf ops a0 vals done n).put (dstAt ops i) (vals i)
  | 0, h, _ => by omega
  | n + 1, h, hd => by
    simp only [actOf]
    by_cases hin : n = i
    · subst hin
      simp only [beq_self_eq_true, Bool.true_or, if_true, hi]
      congr 1
      refine actOf_congr n fun k hk => ⟨?_, fun _ => rfl⟩
      simp [show k ≠ n by omega]
    · rw [actOf_set hi n (by omega) (fun k hk => hd k (by omega))]
      simp only [show (n == i) = false by simp [hin], Bool.false_or]
      cases hn : done n with
      | false => rfl
      | true =>
        simp only [if_true]
        exact Act.put_comm _ _ _ (fun d hdi => hd n (by omega) hin d hdi)
set_option maxRecDepth 100000 in
theorem put_size (a : Act) (d : Option Tmp) (v : Value) : (a.put d v).tmps.size = a.tmps.size := by cases d <;> simp [Act.put]
set_option maxRecDepth 100000 in
theorem actOf_size {vals : Nat → Value} {done : Nat → Bool} : ∀ n, (actOf ops a0 vals done n).tmps.size = a0.tmps.size
  | 0 => rfl
  | n + 1 => by
    simp only [actOf]
    cases done n with
    | false => exact actOf_size n
    | true => simp only [if_true, put_size]; exact actOf_size n
set_option maxRecDepth 100000 in
theorem eval_put_same {a b : Act} (h : a.tmps.size = b.tmps.size) (t : Tmp) (v : Value) : (a.put (some t) v).eval (.tmp t) = (b.put (some t) v).eval (.tmp t) := by
  simp only [Act.eval, Act.put, Array.getD_eq_getD_getElem?, Array.getElem?_setIfInBounds]
  simp [h]
set_option maxRecDepth 100000 in
theorem actOf_eval_none {vals : Nat → Value} {done : Nat → Bool} {t : Tmp} : ∀ n, (∀ k, k < n → done k = true → dstAt ops k ≠ some t) → (actOf ops a0 vals done n).eval (.tmp t) = a0.eval (.tmp t)
  | 0, _ => rfl
  | n + 1, h => by
    simp only [actOf]
    cases hn : done n with
    | false => exact actOf_eval_none n fun k hk => h k (by omega)
    | true =>
      simp only [if_true]
      rw [Act.eval_put fun d hd e => h n (by omega) hn (by rw [hd]; injection e with e; rw [e])]
      exact actOf_eval_none n fun k hk => h k (by omega)
set_option maxRecDepth 100000 in
theorem actOf_eval_some {vals : Nat → Value} {done : Nat → Bool} {t : Tmp} {j : Nat} (hj : done j = true) (ht : dstAt ops j = some t) : ∀ n, j < n → (∀ k, k < n → k ≠ j → dstAt ops k ≠ some t) →
    (actOf ops a0 vals done n).eval (.tmp t) = (a0.put (some t) (vals j)).eval (.tmp t)
  | 0, h, _ => by omega
  | n + 1, h, hu => by
    simp only [actOf]
    by_cases hjn : j = n
    · subst hjn
      simp only [hj, if_true, ht]
      exact eval_put_same (actOf_size _) _ _
    · have ih := actOf_eval_some (vals := vals) hj ht n (by omega) fun k hk => hu k (by omega)
      cases hn : done n with
      | false => exact ih
      | true =>
        simp only [if_true]
        rw [Act.eval_put fun d hd e => hu n (by omega) (Ne.symm hjn) (by rw [hd]; injection e with e; rw [e])]
        exact ih
end Acts

section
variable {P : Program} {ops : Array Oper} {md : Region.Mode}

def calmL : List Oper → List HK → List Oper
  | o :: l, .calm :: ks => o :: calmL l ks
  | _ :: l, .fresh :: ks => calmL l ks
  | _ :: l, .init _ :: ks => calmL l ks
  | _, _ => []
def isCalm (ks : List HK) (k : Nat) : Bool := decide (ks[k]? = some .calm)

set_option maxRecDepth 100000 in
theorem walk_vals {w0 : World} {a0 : Act} {Q : Act → Prop} {ks : List HK} : ∀ (l : List Oper) (ks' : List HK) (k : Nat) (V0 : Nat → Value), l.length = ks'.length → (∀ j, j < l.length → l[j]? = ops[k + j]?) → (∀ j, ks'[j]? = ks[k + j]?) →
    wpCalm P w0 Q (calmL l ks') (actOf ops a0 V0 (isCalm ks) k) →
    ∃ V, (∀ j, j < k → V j = V0 j) ∧ (∀ i o, k ≤ i → ks[i]? = some .calm → ops[i]? = some o → ∀ w', Below w0.heap.size w0 w' → o.quietAt P (actOf ops a0 V (isCalm ks) i) (Below w'.heap.size w') w' (V i)) ∧ Q (actOf ops a0 V (isCalm ks) (k + l.length))
  | [], ks', k, V0, hlen, _, hk, h => by
    have : ks' = [] := by cases ks' with | nil => rfl | cons => simp at hlen
    subst this
    refine ⟨V0, fun _ _ => rfl, fun i o hi hc => ?_, by simpa [calmL, wpCalm] using h⟩
    have := hk (i - k)
    rw [show k + (i - k) = i by omega, hc] at this
    simp at this
  | o :: l, [], k, V0, hlen, _, _, _ => by simp at hlen
  | o :: l, q :: ks', k, V0, hlen, hl, hk, h => by
    have h0 : ops[k]? = some o := by simpa using (hl 0 (by simp)).symm
    have hk0 : ks[k]? = some q := by simpa using (hk 0).symm
    have hl' : ∀ j, j < l.length → l[j]? = ops[k + 1 + j]? := fun j hj => by have := hl (j + 1) (by simp; omega); simpa [Nat.add_assoc, Nat.add_comm 1 j] using this
    have hk' : ∀ j, ks'[j]? = ks[k + 1 + j]? := fun j => by have := hk (j + 1); simpa [Nat.add_assoc, Nat.add_comm 1 j] using this
    have hlen' : l.length = ks'.length := by simpa using hlen
    by_cases hq : q = .calm
    · subst hq
      simp only [calmL, wpCalm] at h
      obtain ⟨v, hv, hn⟩ := h
      have e1 : actOf ops a0 (fun j => if j = k then v else V0 j) (isCalm ks) k = actOf ops a0 V0 (isCalm ks) k := actOf_congr k fun j hj => ⟨rfl, fun _ => by simp [show j ≠ k by omega]⟩
      have e2 : actOf ops a0 (fun j => if j = k then v else V0 j) (isCalm ks) (k + 1) = (actOf ops a0 V0 (isCalm ks) k).put o.dst v := by
        simp only [actOf, e1, show isCalm ks k = true by simp [isCalm, hk0], if_true, dstAt, h0, Option.bind_some]
      obtain ⟨V, hV, hc, hQ⟩ := walk_vals (w0 := w0) (a0 := a0) (Q := Q) (ks := ks) l ks' (k + 1) (fun j => if j = k then v else V0 j) hlen' hl' hk' (by rw [e2]; exact hn)
      refine ⟨V, fun j hj => by rw [hV j (by omega)]; simp [show j ≠ k by omega], fun i oi hi hci hoi w' hb => ?_, by simpa [Nat.add_assoc, Nat.add_comm 1] using hQ⟩
      by_cases hik : i = k
      · subst hik
        rw [h0] at hoi; cases hoi
        have e3 : actOf ops a0 V (isCalm ks) i = actOf ops a0 V0 (isCalm ks) i := actOf_congr i fun j hj => ⟨rfl, fun _ => by rw [hV j (by omega)]; simp [show j ≠ i by omega]⟩
        rw [e3, hV i (by omega)]
        simpa using hv w' hb
      · exact hc i oi (by omega) hci hoi w' hb
    · have e2 : actOf ops a0 V0 (isCalm ks) (k + 1) = actOf ops a0 V0 (isCalm ks) k := by
        simp only [actOf, show isCalm ks k = false by simp [isCalm, hk0, hq]]; rfl
      have h' : wpCalm P w0 Q (calmL l ks') (actOf ops a0 V0 (isCalm ks) (k + 1)) := by
        rw [e2]
        cases q with
        | calm => exact absurd rfl hq
        | fresh => exact h
        | init t => exact h
      obtain ⟨V, hV, hc, hQ⟩ := walk_vals (w0 := w0) (a0 := a0) (Q := Q) (ks := ks) l ks' (k + 1) V0 hlen' hl' hk' h'
      refine ⟨V, fun j hj => hV j (by omega), fun i oi hi hci hoi w' hb => ?_, by simpa [Nat.add_assoc, Nat.add_comm 1] using hQ⟩
      by_cases hik : i = k
      · subst hik; rw [hk0] at hci; cases hci; exact absurd rfl hq
      · exact hc i oi (by omega) hci hoi w' hb

/-- operands that come from calm operations which are waited for -/
def operB (md : Region.Mode) (ops : Array Oper) (n : Nat) (ks : List HK) (i : Nat) (x : Operand) : Bool :=
  match x with
  | .tmp t => (List.range n).all fun j => dstAt ops j != some t || (isCalm ks j && decide (j < i) && Region.waitsFor md ops i j)
  | _ => true
def isPtr (ops : Array Oper) (t : Nat) (x : Operand) : Bool := match x with | .tmp d => decide (dstAt ops t = some d) | _ => false
def headB (md : Region.Mode) (ops : Array Oper) (n : Nat) (ks : List HK) (i : Nat) : Bool :=
  match ops[i]? with
  | none => false
  | some o => o.guard.isNone && (o.after.all fun e => !Region.binds md e || decide (e.on < i))
    && ((List.range n).all fun j => j == i || (match o.dst with | some d => dstAt ops j != some d | none => true))
    && match ks[i]? with
      | some (.init t) => o.dst.isNone && decide (t < n) && decide (ks[t]? = some .fresh) && Region.waitsFor md ops i t && (dstAt ops t).isSome
          && ((List.range n).all fun k => k == i || decide (ks[k]? ≠ some (.init t)))
          && o.op.operands.all fun x => isPtr ops t x || operB md ops n ks i x
      | some _ => o.op.operands.all fun x => operB md ops n ks i x
      | none => false
def freshB (md : Region.Mode) (ops : Array Oper) (n : Nat) (ks : List HK) : Bool :=
  Region.noSelect ops && decide (n < ops.size) && decide (ks.length = n) && Region.sinkB md ops n && Region.chainB md ops n
    && Region.seqB md ops (ops.size - n) n (List.replicate n true ++ List.replicate (ops.size - n) false).toArray
    && (List.range n).all fun i => headB md ops n ks i

/-- what headB says -/
structure HeadOk (md : Region.Mode) (ops : Array Oper) (n : Nat) (ks : List HK) (i : Nat) (o : Oper) : Prop where
  guard : o.guard = none
  order : ∀ e ∈ o.after, Region.binds md e = true → e.on < i
  dst : ∀ j, j < n → j ≠ i → ∀ d, o.dst = some d → dstAt ops j ≠ some d
  oper : (∀ t, ks[i]? ≠ some (.init t)) → ∀ x ∈ o.op.operands, operB md ops n ks i x = true
  init : ∀ t, ks[i]? = some (.init t) → o.dst = none ∧ t < n ∧ ks[t]? = some .fresh ∧ Region.waitsFor md ops i t = true ∧ (dstAt ops t).isSome = true ∧ (∀ k, k < n → k ≠ i → ks[k]? ≠ some (.init t)) ∧
    ∀ x ∈ o.op.operands, isPtr ops t x = true ∨ operB md ops n ks i x = true
set_option maxRecDepth 100000 in
theorem headB_spec {n i : Nat} {ks : List HK} (h : headB md ops n ks i = true) : ∃ o, ops[i]? = some o ∧ HeadOk md ops n ks i o := by
  unfold headB at h
  cases ho : ops[i]? with
  | none => simp [ho] at h
  | some o =>
    simp only [ho, Bool.and_eq_true, Option.isNone_iff_eq_none, List.all_eq_true, List.mem_range] at h
    obtain ⟨⟨⟨h1, h2⟩, h3⟩, h4⟩ := h
    refine ⟨o, rfl, h1, fun e he hb => ?_, fun j hj hne d hd => ?_, fun hni x hx => ?_, fun t ht => ?_⟩
    · have := Array.all_eq_true_iff_forall_mem.1 h2 e he
      simpa [hb] using this
    · have := h3 j hj
      simpa [hne, hd] using this
    · cases hk : ks[i]? with
      | none => simp [hk] at h4
      | some q =>
        cases q with
        | init t => exact absurd hk (hni t)
        | calm => simp only [hk] at h4; exact Array.all_eq_true_iff_forall_mem.1 h4 x hx
        | fresh => simp only [hk] at h4; exact Array.all_eq_true_iff_forall_mem.1 h4 x hx
    · simp only [ht, Bool.and_eq_true, Option.isNone_iff_eq_none, decide_eq_true_eq, List.all_eq_true, List.mem_range] at h4
      obtain ⟨⟨⟨⟨⟨⟨g1, g2⟩, g3⟩, g4⟩, g5⟩, g6⟩, g7⟩ := h4
      refine ⟨g1, g2, g3, g4, g5, fun k hk hne => ?_, fun x hx => ?_⟩
      · have := g6 k hk
        simpa [hne] using this
      · have := Array.all_eq_true_iff_forall_mem.1 g7 x hx
        simpa using this

/-- the number of operations of the head that are still to come -/
def cnt (listed : Array Bool) : Nat → Nat
  | 0 => 0
  | k + 1 => cnt listed k + if listed.getD k false then 0 else 1
set_option maxRecDepth 100000 in
theorem cnt_set {listed : Array Bool} {i : Nat} (hs : i < listed.size) (hi : listed.getD i false = false) : ∀ n, (i < n → cnt listed n = cnt (listed.setIfInBounds i true) n + 1) ∧ (n ≤ i → cnt listed n = cnt (listed.setIfInBounds i true) n)
  | 0 => ⟨fun h => by omega, fun _ => rfl⟩
  | n + 1 => by
    obtain ⟨h1, h2⟩ := cnt_set hs hi n
    refine ⟨fun h => ?_, fun h => ?_⟩
    · simp only [cnt]
      by_cases hin : i = n
      · subst hin
        have : (listed.setIfInBounds i true).getD i false = true := by simp [hs]
        rw [h2 (Nat.le_refl _), hi, this]; simp
      · rw [getD_set_ne false hin, h1 (by omega)]; omega
    · simp only [cnt]
      rw [getD_set_ne false (show i ≠ n by omega), h2 (by omega)]
set_option maxRecDepth 100000 in
theorem cnt_zero {listed : Array Bool} : ∀ n, cnt listed n = 0 → ∀ k, k < n → listed.getD k false = true
  | 0, _, k, hk => by omega
  | n + 1, h, k, hk => by
    simp only [cnt] at h
    have h1 : cnt listed n = 0 := by omega
    by_cases hkn : k = n
    · subst hkn
      cases hd : listed.getD k false with
      | true => rfl
      | false => rw [hd] at h; simp at h
    · exact cnt_zero n h1 k (by omega)
set_option maxRecDepth 100000 in
theorem cnt_none {listed : Array Bool} : ∀ n, cnt listed n ≠ 0 → ∃ k, k < n ∧ listed.getD k false = false ∧ ∀ j, j < k → listed.getD j false = true
  | 0, h => absurd rfl h
  | n + 1, h => by
    by_cases h1 : cnt listed n = 0
    · refine ⟨n, by omega, ?_, cnt_zero n h1⟩
      cases hd : listed.getD n false with
      | false => rfl
      | true => simp [cnt, h1, hd] at h
    · obtain ⟨k, hk, h2, h3⟩ := cnt_none n h1
      exact ⟨k, by omega, h2, h3⟩
set_option maxRecDepth 100000 in
theorem cnt_all (m : Nat) : ∀ n, cnt (Array.replicate m false) n = n
  | 0 => rfl
  | n + 1 => by rw [cnt, cnt_all m n, getD_replicate_false]; rfl

/-- what the operations of the head come to -/
def valF (ks : List HK) (V : Nat → Value) (fv : Nat → Nat → Value) (γ : Nat → Nat) (i : Nat) : Value :=
  match ks[i]? with
  | some .fresh => fv i (γ i)
  | some (.init _) => undef
  | _ => V i

/-- a world turned at one block -/
structure Set1 (G : Nat) (Y : Obj) (w w' : World) : Prop where
  os : w'.os = w.os
  tape : w'.tape = w.tape
  output : w'.output = w.output
  size : w'.heap.size = w.heap.size
  new : w'.heap[G]? = some Y
  old : ∀ k, k ≠ G → w'.heap[k]? = w.heap[k]?

/-- what is asked of the operations that make blocks and fill them -/
def obF (P : Program) (ops : Array Oper) (w0 : World) (aN : Act) (X Y : Nat → Obj) (fv : Nat → Nat → Value) (ks0 : List HK) : List Oper → List HK → Nat → Prop
  | o :: l, .fresh :: ks, i => ((∀ (a' : Act) (w' : World), Below w0.heap.size w0 w' → (∀ x ∈ o.op.operands, a'.eval x = aN.eval x) → (execOp a'.eval o).run P w' = .ok (.value (fv i w'.heap.size)) (w'.alloc (X i))) ∧ (Y i = X i ∨ ∃ k, k < ks0.length ∧ ks0[k]? = some (.init i))) ∧ obF P ops w0 aN X Y fv ks0 l ks (i + 1)
  | o :: l, .init t :: ks, i => (∀ (a' : Act) (w' : World) (G : Nat), Below w0.heap.size w0 w' → (∀ x ∈ o.op.operands, isPtr ops t x = true ∨ a'.eval x = aN.eval x) → (∀ d, dstAt ops t = some d → a'.eval (.tmp d) = fv t G) → w'.heap[G]? = some (X t) →
      ∃ w'', (execOp a'.eval o).run P w' = .ok .skip w'' ∧ Set1 G (Y t) w' w'') ∧ obF P ops w0 aN X Y fv ks0 l ks (i + 1)
  | _ :: l, .calm :: ks, i => obF P ops w0 aN X Y fv ks0 l ks (i + 1)
  | _, _, _ => True
set_option maxRecDepth 100000 in
theorem obF_at {w0 : World} {aN : Act} {X Y : Nat → Obj} {fv : Nat → Nat → Value} {ks0 : List HK} : ∀ (l : List Oper) (ks : List HK) (k : Nat), obF P ops w0 aN X Y fv ks0 l ks k → ∀ i o q, l[i]? = some o → ks[i]? = some q → obF P ops w0 aN X Y fv ks0 [o] [q] (k + i)
  | [], _, _, _, i, o, q, h, _ => by simp at h
  | _ :: _, [], _, _, i, o, q, _, h => by simp at h
  | o :: l, q :: ks, k, h, i, o', q', ho, hq => by
    cases i with
    | zero =>
      simp only [List.getElem?_cons_zero, Option.some.injEq] at ho hq
      subst ho; subst hq
      cases q with
      | calm => trivial
      | fresh => exact ⟨h.1, trivial⟩
      | init t => exact ⟨h.1, trivial⟩
    | succ i =>
      rw [show k + (i + 1) = (k + 1) + i by omega]
      refine obF_at l ks (k + 1) ?_ i o' q' (by simpa using ho) (by simpa using hq)
      cases q with
      | calm => exact h
      | fresh => exact h.2
      | init t => exact h.2

set_option maxRecDepth 100000 in
theorem wp_of_quietAt {o : Oper} {a : Act} {w : World} {C : World → Prop} {v : Value} {K : Act → World → Prop} {Q : Exit → Act → World → Prop} (hw : C w) (h : o.quietAt P a C w v) (hk : ∀ w', C w' → K (a.put o.dst v) w') : o.wp P a w K Q := by
  unfold Oper.quietAt at h
  unfold Oper.wp
  generalize (execOp a.eval o).run P w = r at *
  cases r with
  | ok n w' =>
    cases n <;> simp only [Oper.quietUpon] at h <;> simp only [Oper.upon]
    case value u => obtain ⟨e1, e2⟩ := h; rw [e1, e2]; exact hk _ hw
    case skip => obtain ⟨e1, e2⟩ := h; rw [e1, ← e2]; exact hk _ hw
    case enter f args =>
      obtain ⟨e1, hc⟩ := h
      rw [e1]
      exact hc.mono fun e w'' ⟨he, hw''⟩ => by subst he; exact hk _ hw''
  | halt x w' => simp only [Oper.quietUpon] at h
end
end Go.Proofs.YtllgodaphoncnaaGreatDoor
namespace Go.Proofs.YtllgodaphoncnaaGreatDoor
open Go RowKit

section
variable {P : Program} {ops : Array Oper} {md : Region.Mode}

set_option maxRecDepth 100000 in
theorem operB_eval {n i m : Nat} {ks : List HK} {x : Operand} {a0 : Act} {V vals : Nat → Value} {listed : Array Bool} (hx : operB md ops n ks i x = true)
    (hok : ∀ k, k < n → headB md ops n ks k = true) (hm : i ≤ m) (hmn : m ≤ n)
    (hw : ∀ j, Region.waitsFor md ops i j = true → listed.getD j false = true) (hv : ∀ j, isCalm ks j = true → vals j = V j) :
    (actOf ops a0 vals (fun k => listed.getD k false) n).eval x = (actOf ops a0 V (isCalm ks) m).eval x := by
  cases x with
  | tmp t =>
    simp only [operB, List.all_eq_true, List.mem_range, Bool.or_eq_true, bne_iff_ne, ne_eq, Bool.and_eq_true, decide_eq_true_eq] at hx
    by_cases hj : ∃ j, j < n ∧ dstAt ops j = some t
    · obtain ⟨j, hj, ht⟩ := hj
      rcases hx j hj with h | ⟨⟨hc, hji⟩, hwj⟩
      · exact absurd ht h
      · have hu : ∀ k, k < n → k ≠ j → dstAt ops k ≠ some t := by
          obtain ⟨o, ho, hh⟩ := headB_spec (hok j hj)
          have hd : o.dst = some t := by simpa [dstAt, ho] using ht
          exact fun k hk hne => hh.dst k hk hne t hd
        rw [actOf_eval_some (hw j hwj) ht n hj hu, actOf_eval_some hc ht m (by omega) fun k hk => hu k (by omega), hv j hc]
    · rw [actOf_eval_none n fun k hk _ he => hj ⟨k, hk, he⟩, actOf_eval_none m fun k hk _ he => hj ⟨k, by omega, he⟩]
  | _ => rfl

/-- what holds whatever part of the head is done -/
structure FInv (md : Region.Mode) (ops : Array Oper) (n : Nat) (ks : List HK) (a0 : Act) (w0 : World) (V : Nat → Value) (fv : Nat → Nat → Value) (X Y : Nat → Obj) (listed : Array Bool) (γ : Nat → Nat) (a : Act) (w : World) : Prop where
  head : HeadInv md ops n listed
  act : a = actOf ops a0 (valF ks V fv γ) (fun k => listed.getD k false) n
  below : Below w0.heap.size w0 w
  blocks : ∀ i, ks[i]? = some .fresh → listed.getD i false = true → w0.heap.size ≤ γ i ∧ γ i < w.heap.size ∧
    (∀ k, k < n → ks[k]? = some (.init i) → listed.getD k false = true → w.heap[γ i]? = some (Y i)) ∧ ((∀ k, k < n → ks[k]? = some (.init i) → listed.getD k false = false) → w.heap[γ i]? = some (X i))
  ne : ∀ i j, ks[i]? = some .fresh → ks[j]? = some .fresh → listed.getD i false = true → listed.getD j false = true → i ≠ j → γ i ≠ γ j

set_option maxRecDepth 100000 in
theorem getD_set_iff {listed : Array Bool} {i : Nat} (hs : i < listed.size) : (fun k => (listed.setIfInBounds i true).getD k false) = fun k => k == i || listed.getD k false := by
  funext k
  by_cases h : k = i
  · subst h; simp [hs]
  · rw [getD_set_ne false (Ne.symm h)]; simp [h]

/-- the slots that point to blocks to be filled are slots -/
def szB (ops : Array Oper) (ks : List HK) (m : Nat) : Bool :=
  (List.range ks.length).all fun i => match ks[i]? with
    | some (.init t) => (match dstAt ops t with | some d => decide (d < m) | none => true)
    | _ => true
set_option maxRecDepth 100000 in
theorem szB_spec {ks : List HK} {m i t d : Nat} (h : szB ops ks m = true) (hi : ks[i]? = some (.init t)) (hd : dstAt ops t = some d) : d < m := by
  have hlt : i < ks.length := (List.getElem?_eq_some_iff.1 hi).1
  have := List.all_eq_true.1 h i (List.mem_range.2 hlt)
  simpa [hi, hd] using this

set_option maxRecDepth 100000 in
theorem fresh_any {Q : Exit → Act → World → Prop} {n g : Nat} {ks : List HK} {a0 : Act} {w0 : World} {V : Nat → Value} {fv : Nat → Nat → Value} {X Y : Nat → Obj} (hn : n < ops.size) (hks : ks.length = n)
    (hs : Region.sinkB md ops n = true) (hc : Region.chainB md ops n = true) (hsel : Region.noSelect ops = true) (hsz : szB ops ks a0.tmps.size = true) (hok : ∀ k, k < n → headB md ops n ks k = true)
    (hcalm : ∀ (i : Nat) (o : Oper), ks[i]? = some HK.calm → ops[i]? = some o → ∀ w', Below w0.heap.size w0 w' → o.quietAt P (actOf ops a0 V (isCalm ks) i) (Below w'.heap.size w') w' (V i))
    (hob : ∀ (i : Nat) (o : Oper) (q : HK), ops[i]? = some o → ks[i]? = some q → obF P ops w0 (actOf ops a0 V (isCalm ks) n) X Y fv ks [o] [q] i)
    (hend : ∀ listed γ a w, FInv md ops n ks a0 w0 V fv X Y listed γ a w → (∀ k, k < n → listed.getD k false = true) → wpAny P md ops Q g listed a w) :
    ∀ f listed γ a w, FInv md ops n ks a0 w0 V fv X Y listed γ a w → cnt listed n = f → wpAny P md ops Q (f + g) listed a w := by
  intro f
  induction f with
  | zero => intro listed γ a w inv hf; rw [Nat.zero_add]; exact hend _ _ _ _ inv (cnt_zero n hf)
  | succ f ih =>
    intro listed γ a w inv hf
    rw [show f + 1 + g = (f + g) + 1 by omega]
    obtain ⟨k0, hk0, hun0, hall0⟩ := cnt_none n (show cnt listed n ≠ 0 by omega)
    have hls := inv.head.size
    obtain ⟨o0, ho0, hh0⟩ := headB_spec (hok k0 hk0)
    have hr0 : k0 ∈ Region.ready md ops listed := mem_ready.2 ⟨getD_in (by omega) hun0, o0, ho0, fun e he hb => hall0 _ (hh0.order e he hb)⟩
    refine ⟨fun h0 => (by rw [h0] at hr0; cases hr0), fun i hi => ?_⟩
    have hin : i < n := (Nat.lt_or_ge i n).elim id fun h => absurd hi (tail_waits hs hc hn inv.head _ k0 rfl hk0 (getD_in (by omega) hun0) i h)
    obtain ⟨o, ho, hh⟩ := headB_spec (hok i hin)
    obtain ⟨hiun, o', ho', hbind⟩ := mem_ready.1 hi
    rw [ho] at ho'; cases ho'
    have hiun' : listed.getD i false = false := getD_both hiun
    have hwait : ∀ j, Region.waitsFor md ops i j = true → listed.getD j false = true := fun j hj => by
      obtain ⟨o2, ho2, e, he, hb, hon⟩ := Region.waitsFor_spec hj
      rw [ho] at ho2; cases ho2
      rw [← hon]; exact hbind e he hb
    have hcnt : cnt (listed.setIfInBounds i true) n = f := by have := (cnt_set (by omega) hiun' n).1 hin; omega
    have hset := getD_set_iff (listed := listed) (i := i) (by omega)
    have hdst : dstAt ops i = o.dst := by simp [dstAt, ho]
    have hnew : ∀ γ' : Nat → Nat, (∀ j, ks[j]? = some .fresh → listed.getD j false = true → γ' j = γ j) →
        a.put o.dst (valF ks V fv γ' i) = actOf ops a0 (valF ks V fv γ') (fun k => (listed.setIfInBounds i true).getD k false) n := fun γ' hγ => by
      rw [hset, actOf_set hiun' n hin (fun k hk hne d hd => hh.dst k hk hne d (by rw [← hdst]; exact hd)), hdst, inv.act]
      congr 1
      refine actOf_congr n fun k hk => ⟨rfl, fun hd => ?_⟩
      unfold valF
      split
      · rename_i hfr; rw [hγ k hfr hd]
      · rfl
      · rfl
    have hval : ∀ γ' j, isCalm ks j = true → valF ks V fv γ' j = V j := fun γ' j hj => by
      have : ks[j]? = some .calm := by simpa [isCalm] using hj
      simp [valF, this]
    have hl1 : ∀ j, (listed.setIfInBounds i true).getD j false = true → j ≠ i → listed.getD j false = true := fun j hj hne => by rwa [getD_set_ne false (Ne.symm hne)] at hj
    have hw1 : Region.wanted o (yielded ops a.tmps) = true := by simp [Region.wanted, hh.guard]
    unfold wpOp
    simp only [ho, hw1, if_true]
    refine .inl ?_
    have hiks : i < ks.length := by omega
    have hq : ks[i]? = some ks[i] := List.getElem?_eq_getElem hiks
    generalize ks[i] = q at hq
    cases q with
    | calm =>
      have hsame : execOp a.eval o = execOp (actOf ops a0 V (isCalm ks) i).eval o :=
        execOp_congr o (fun cs b => Region.noSelect_spec hsel i o cs b ho) fun x hx => by
          rw [inv.act]
          exact operB_eval (hh.oper (fun t ht => by rw [hq] at ht; cases ht) x hx) hok (Nat.le_refl _) (by omega) hwait (hval γ)
      have hqa : o.quietAt P a (Below w.heap.size w) w (V i) := by
        have := hcalm i o hq ho w inv.below
        unfold Oper.quietAt at *
        rw [hsame]; exact this
      refine wp_of_quietAt (Below.refl _ _) hqa fun w' hb => ih _ γ _ w' ⟨inv.head.set hi hin, ?_, inv.below.trans (hb.mono inv.below.size), fun j hj hjl => ?_, fun j k hj hk hjl hkl hne => ?_⟩ hcnt
      · rw [← hnew γ fun _ _ _ => rfl]
        simp [valF, hq]
      · have hne : j ≠ i := fun e => by rw [e, hq] at hj; cases hj
        obtain ⟨h1, h2, h3, h4⟩ := inv.blocks j hj (hl1 j hjl hne)
        refine ⟨h1, Nat.lt_of_lt_of_le h2 hb.size, fun k hk hki hkl => ?_, fun hno => ?_⟩
        · rw [hb.block _ h2]
          have hki2 : k ≠ i := fun e => by rw [e, hq] at hki; cases hki
          exact h3 k hk hki (hl1 k hkl hki2)
        · rw [hb.block _ h2]
          refine h4 fun k hk hki => ?_
          have hki2 : k ≠ i := fun e => by rw [e, hq] at hki; cases hki
          have := hno k hk hki
          rwa [getD_set_ne false (Ne.symm hki2)] at this
      · have h1 : j ≠ i := fun e => by rw [e, hq] at hj; cases hj
        have h2 : k ≠ i := fun e => by rw [e, hq] at hk; cases hk
        exact inv.ne j k hj hk (hl1 j hjl h1) (hl1 k hkl h2) hne
    | fresh =>
      obtain ⟨⟨hrun, _⟩, _⟩ := hob i o .fresh ho hq
      have hr := hrun a w inv.below fun x hx => by
        rw [inv.act]
        exact operB_eval (hh.oper (fun t ht => by rw [hq] at ht; cases ht) x hx) hok (by omega) (Nat.le_refl _) hwait (hval γ)
      unfold Oper.wp
      rw [hr]
      simp only [Oper.upon]
      have hγ : ∀ j, ks[j]? = some .fresh → listed.getD j false = true → (fun j => if j = i then w.heap.size else γ j) j = γ j := fun j _ hj => by
        have : j ≠ i := fun e => by rw [e, hiun'] at hj; cases hj
        simp [this]
      refine ih _ (fun j => if j = i then w.heap.size else γ j) _ _ ⟨inv.head.set hi hin, ?_, inv.below.alloc inv.below.size _, fun j hj hjl => ?_, fun j k hj hk hjl hkl hne => ?_⟩ hcnt
      · rw [← hnew _ hγ]
        simp [valF, hq]
      · have noinit : ∀ k, k < n → ks[k]? = some (.init i) → listed.getD k false = false := fun k hk hki => by
          cases hd : listed.getD k false with
          | false => rfl
          | true =>
            obtain ⟨o3, ho3, hh3⟩ := headB_spec (hok k hk)
            obtain ⟨_, _, _, hwt, _⟩ := hh3.init i hki
            obtain ⟨o4, ho4, e, he, hb, hon⟩ := Region.waitsFor_spec hwt
            have := inv.head.closed k o4 ho4 hd e he hb
            rw [hon, hiun'] at this; cases this
        by_cases hji : j = i
        · subst hji
          simp only [if_true]
          refine ⟨inv.below.size, by simp only [World.size_alloc]; omega, fun k hk hki hkl => ?_, fun _ => heap_alloc_new _ _⟩
          have hkj : k ≠ j := fun e => by rw [e, hq] at hki; cases hki
          have := noinit k hk hki
          rw [hl1 k hkl hkj] at this; cases this
        · obtain ⟨h1, h2, h3, h4⟩ := inv.blocks j hj (hl1 j hjl hji)
          simp only [if_neg hji]
          have hold : (w.alloc (X i)).heap[γ j]? = w.heap[γ j]? := by simp only [World.alloc]; rw [Array.getElem?_push_lt h2, Array.getElem?_eq_getElem h2]
          refine ⟨h1, by simp only [World.size_alloc]; omega, fun k hk hki hkl => ?_, fun hno => ?_⟩
          · rw [hold]
            have hki2 : k ≠ i := fun e => by rw [e, hq] at hki; cases hki
            exact h3 k hk hki (hl1 k hkl hki2)
          · rw [hold]
            refine h4 fun k hk hki => ?_
            have hki2 : k ≠ i := fun e => by rw [e, hq] at hki; cases hki
            have := hno k hk hki
            rwa [getD_set_ne false (Ne.symm hki2)] at this
      · by_cases h1 : j = i
        · by_cases h2 : k = i
          · exact absurd (h1.trans h2.symm) hne
          · simp only [if_pos h1, if_neg h2]
            have := (inv.blocks k hk (hl1 k hkl h2)).2.1
            omega
        · by_cases h2 : k = i
          · simp only [if_neg h1, if_pos h2]
            have := (inv.blocks j hj (hl1 j hjl h1)).2.1
            omega
          · simp only [if_neg h1, if_neg h2]
            exact inv.ne j k hj hk (hl1 j hjl h1) (hl1 k hkl h2) hne
    | init t =>
      obtain ⟨hdn, htn, htf, htw, htd, huniq, hop⟩ := hh.init t hq
      have htl : listed.getD t false = true := hwait t htw
      obtain ⟨b1, b2, b3, b4⟩ := inv.blocks t htf htl
      obtain ⟨hrun, _⟩ := hob i o (.init t) ho hq
      obtain ⟨d, hd⟩ := Option.isSome_iff_exists.1 htd
      have hnoinit : ∀ k, k < n → ks[k]? = some (.init t) → listed.getD k false = false := fun k hk hki => by
        by_cases hkk : k = i
        · rw [hkk]; exact hiun'
        · exact absurd hki (huniq k hk hkk)
      have hptr : a.eval (.tmp d) = fv t (γ t) := by
        have hlt := szB_spec hsz hq hd
        obtain ⟨o5, ho5, hh5⟩ := headB_spec (hok t htn)
        have hd5 : o5.dst = some d := by simpa [dstAt, ho5] using hd
        rw [inv.act, actOf_eval_some htl hd n htn fun k hk hne => hh5.dst k hk hne d hd5]
        simp [Act.eval, Act.put, valF, htf, hlt]
      obtain ⟨w', hr, hs1⟩ := hrun a w (γ t) inv.below (fun x hx => by
        rcases hop x hx with h | h
        · exact .inl h
        · right
          rw [inv.act]
          exact operB_eval h hok (by omega) (Nat.le_refl _) hwait (hval γ)) (fun d' hd' => by rw [hd] at hd'; cases hd'; exact hptr) (b4 hnoinit)
      unfold Oper.wp
      rw [hr]
      simp only [Oper.upon]
      have hb' : Below w0.heap.size w0 w' := ⟨hs1.os.trans inv.below.os, hs1.tape.trans inv.below.tape, hs1.output.trans inv.below.output, by rw [hs1.size]; exact inv.below.size,
        fun k hk => by rw [hs1.old k (by omega)]; exact inv.below.block k hk⟩
      refine ih _ γ _ w' ⟨inv.head.set hi hin, ?_, hb', fun j hj hjl => ?_, fun j k hj hk hjl hkl hne => ?_⟩ hcnt
      · rw [← hnew γ fun _ _ _ => rfl]
        simp [valF, hq]
      · have hji : j ≠ i := fun e => by rw [e, hq] at hj; cases hj
        obtain ⟨h1, h2, h3, h4⟩ := inv.blocks j hj (hl1 j hjl hji)
        by_cases hjt : j = t
        · subst hjt
          refine ⟨h1, by rw [hs1.size]; exact h2, fun _ _ _ _ => hs1.new, fun hno => ?_⟩
          have := hno i hin hq
          rw [show (listed.setIfInBounds i true).getD i false = true by simp [show i < listed.size by omega]] at this; cases this
        · have hgne : γ j ≠ γ t := inv.ne j t hj htf (hl1 j hjl hji) htl hjt
          refine ⟨h1, by rw [hs1.size]; exact h2, fun k hk hki hkl => ?_, fun hno => ?_⟩
          · rw [hs1.old _ hgne]
            have hki2 : k ≠ i := fun e => by rw [e, hq] at hki; cases hki; exact hjt rfl
            exact h3 k hk hki (hl1 k hkl hki2)
          · rw [hs1.old _ hgne]
            refine h4 fun k hk hki => ?_
            have hki2 : k ≠ i := fun e => by rw [e, hq] at hki; cases hki; exact hjt rfl
            have := hno k hk hki
            rwa [getD_set_ne false (Ne.symm hki2)] at this
      · have h1 : j ≠ i := fun e => by rw [e, hq] at hj; cases hj
        have h2 : k ≠ i := fun e => by rw [e, hq] at hk; cases hk
        exact inv.ne j k hj hk (hl1 j hjl h1) (hl1 k hkl h2) hne

/-- the new blocks' pointers, laid behind the walk -/
def putF (fv : Nat → Nat → Value) (γ : Nat → Nat) : List Oper → List HK → Nat → Act → Act
  | o :: l, .fresh :: ks, i, a => putF fv γ l ks (i + 1) (a.put o.dst (fv i (γ i)))
  | _ :: l, .calm :: ks, i, a => putF fv γ l ks (i + 1) a
  | _ :: l, .init _ :: ks, i, a => putF fv γ l ks (i + 1) a
  | _, _, _, a => a
/-- what is known of them -/
structure Fresh (w0 : World) (ks : List HK) (Y : Nat → Obj) (γ : Nat → Nat) (w : World) : Prop where
  below : Below w0.heap.size w0 w
  block : ∀ i, ks[i]? = some .fresh → w0.heap.size ≤ γ i ∧ w.heap[γ i]? = some (Y i)
  ne : ∀ i j, ks[i]? = some .fresh → ks[j]? = some .fresh → i ≠ j → γ i ≠ γ j

set_option maxRecDepth 100000 in
theorem putF_eq {a0 : Act} {V : Nat → Value} {fv : Nat → Nat → Value} {γ : Nat → Nat} {ks : List HK} {n : Nat} (hok : ∀ k, k < n → headB md ops n ks k = true) : ∀ (l : List Oper) (ks' : List HK) (k : Nat), l.length = ks'.length → (∀ j, j < l.length → l[j]? = ops[k + j]?) → (∀ j, ks'[j]? = ks[k + j]?) → k + l.length = n →
    putF fv γ l ks' k (actOf ops a0 (valF ks V fv γ) (fun j => isCalm ks j || decide (j < k)) n) = actOf ops a0 (valF ks V fv γ) (fun _ => true) n
  | [], ks', k, hlen, _, _, hk => by
    have : ks' = [] := by cases ks' with | nil => rfl | cons => simp at hlen
    subst this
    have hk' : k = n := by simpa using hk
    subst hk'
    exact actOf_congr k fun j hj => ⟨by simp [hj], fun _ => rfl⟩
  | o :: l, [], k, hlen, _, _, _ => by simp at hlen
  | o :: l, q :: ks', k, hlen, hl, hk, hn => by
    have h0 : ops[k]? = some o := by simpa using (hl 0 (by simp)).symm
    have hk0 : ks[k]? = some q := by simpa using (hk 0).symm
    have hl' : ∀ j, j < l.length → l[j]? = ops[k + 1 + j]? := fun j hj => by have := hl (j + 1) (by simp; omega); simpa [Nat.add_assoc, Nat.add_comm 1 j] using this
    have hk' : ∀ j, ks'[j]? = ks[k + 1 + j]? := fun j => by have := hk (j + 1); simpa [Nat.add_assoc, Nat.add_comm 1 j] using this
    have hkn : k < n := by simp at hn; omega
    have ih := putF_eq (a0 := a0) (V := V) (fv := fv) (γ := γ) hok l ks' (k + 1) (by simpa using hlen) hl' hk' (by simp at hn; omega)
    obtain ⟨o', ho', hh⟩ := headB_spec (hok k hkn)
    rw [h0] at ho'; cases ho'
    have hdst : dstAt ops k = o.dst := by simp [dstAt, h0]
    have step : isCalm ks k = false → actOf ops a0 (valF ks V fv γ) (fun j => isCalm ks j || decide (j < k + 1)) n = (actOf ops a0 (valF ks V fv γ) (fun j => isCalm ks j || decide (j < k)) n).put o.dst (valF ks V fv γ k) := fun hc => by
      rw [← hdst, ← actOf_set (by simp [hc]) n hkn fun j hj hne d hd => hh.dst j hj hne d (by rw [← hdst]; exact hd)]
      refine actOf_congr n fun j hj => ⟨?_, fun _ => rfl⟩
      by_cases hjk : j = k
      · subst hjk; simp
      · have e : decide (j < k + 1) = decide (j < k) := by rw [decide_eq_decide]; omega
        simp [hjk, e]
    cases q with
    | calm =>
      simp only [putF]
      rw [← ih]
      congr 1
      refine actOf_congr n fun j hj => ⟨?_, fun _ => rfl⟩
      by_cases hjk : j = k
      · subst hjk; simp [isCalm, hk0]
      · have e : decide (j < k + 1) = decide (j < k) := by rw [decide_eq_decide]; omega
        simp [e]
    | fresh =>
      simp only [putF]
      rw [← ih, step (by simp [isCalm, hk0])]
      simp [valF, hk0]
    | init t =>
      simp only [putF]
      rw [← ih, step (by simp [isCalm, hk0]), (hh.init t hk0).1]
      rfl

set_option maxRecDepth 100000 in
/-- A region of reads, quiet callees, new blocks and what fills them, then a tail in one order. -/
theorem wpAny_fresh {Q : Exit → Act → World → Prop} {a : Act} {w : World} {l : List Oper} (n : Nat) (ks : List HK) (X Y : Nat → Obj) (fv : Nat → Nat → Value)
    (hB : freshB .any l.toArray n ks = true) (hsz : szB l.toArray ks a.tmps.size = true)
    (h : ∀ R, Lasting w R → wpQuiet P l.toArray (fun w' => ∃ m : BlR w R, w' = m.wr) (fun a' => obF P l.toArray w a' X Y fv ks (l.take n) ks 0 ∧
      ∀ γ w', Fresh w ks Y γ w' → wpList P l.toArray Q (l.drop n) (putF fv γ (l.take n) ks 0 a') w') (calmL (l.take n) ks) a) : wpAny P .any l.toArray Q l.toArray.size (Array.replicate l.toArray.size false) a (w.drewN 1) := by
  simp only [freshB, Bool.and_eq_true, decide_eq_true_eq, List.all_eq_true, List.mem_range] at hB
  obtain ⟨⟨⟨⟨⟨⟨hsel, hn⟩, hks⟩, hs⟩, hc⟩, hseq⟩, hok⟩ := hB
  have hn' : n < l.length := by simpa using hn
  have htl : (l.take n).length = ks.length := by simp; omega
  have hdl : (l.drop n).length = l.toArray.size - n := by simp
  have hguard : ∀ (l' : List Oper) (ks' : List HK) (k : Nat), (∀ j, j < l'.length → l'[j]? = l.toArray[k + j]?) → k + l'.length ≤ n → ∀ o ∈ calmL l' ks', o.guard = none := by
    intro l'
    induction l' with
    | nil => intro ks' k _ _ o ho; cases ks' <;> simp [calmL] at ho
    | cons o' l' ih =>
      intro ks' k hl hk o ho
      have ih' := fun ks'' => ih ks'' (k + 1) (fun j hj => by have := hl (j + 1) (by simp; omega); simpa [Nat.add_assoc, Nat.add_comm 1 j] using this) (by simp at hk; omega)
      cases ks' with
      | nil => simp [calmL] at ho
      | cons q ks' =>
        cases q with
        | calm =>
          simp only [calmL, List.mem_cons] at ho
          rcases ho with rfl | ho
          · obtain ⟨o2, ho2, hh⟩ := headB_spec (hok k (by simp at hk; omega))
            have h0 : l.toArray[k]? = some o := by simpa using (hl 0 (by simp)).symm
            rw [h0] at ho2; cases ho2
            exact hh.guard
          · exact ih' _ o ho
        | fresh => exact ih' _ o ho
        | init t => exact ih' _ o ho
  have hlt : ∀ j, j < (l.take n).length → (l.take n)[j]? = l.toArray[0 + j]? := fun j hj => by
    have hj' : j < n := by rw [htl, hks] at hj; exact hj
    simp [hj']
  have hcalm := wpCalm_of_quiet (calmL (l.take n) ks) a (hguard _ ks 0 hlt (by rw [htl]; omega)) h
  obtain ⟨V, _, hc1, hob, hrest⟩ := walk_vals (ops := l.toArray) (a0 := a) (ks := ks) (l.take n) ks 0 (fun _ => undef) htl hlt (fun j => by simp) (by simpa [actOf] using hcalm)
  rw [Nat.zero_add, htl, hks] at hob hrest
  have inv0 : HeadInv .any l.toArray n (Array.replicate l.toArray.size false) :=
    ⟨by simp, fun j oj _ hl => (by rw [getD_replicate_false] at hl; cases hl), fun t _ ht => getD_in (by simpa using ht) (getD_replicate_false _ _)⟩
  have hob' : ∀ (i : Nat) (o : Oper) (q : HK), l.toArray[i]? = some o → ks[i]? = some q → obF P l.toArray w (actOf l.toArray a V (isCalm ks) n) X Y fv ks [o] [q] i := fun i o q ho hq => by
    have hi : i < n := by have := (List.getElem?_eq_some_iff.1 hq).1; omega
    have := obF_at (l.take n) ks 0 hob i o q (by rw [hlt i (by rw [htl, hks]; exact hi), Nat.zero_add]; exact ho) hq
    rwa [Nat.zero_add] at this
  have key := fresh_any (P := P) (ops := l.toArray) (md := .any) (Q := Q) (n := n) (g := l.toArray.size - n) (ks := ks) (a0 := a) (w0 := w) (V := V) (fv := fv) (X := X) (Y := Y) hn hks hs hc hsel hsz hok
    (fun i o hi ho => hc1 i o (Nat.zero_le _) hi ho) hob' (fun listed γ a' w' inv hall => by
      have hlisted : listed = (List.replicate n true ++ List.replicate (l.toArray.size - n) false).toArray := by
        apply Array.ext
        · rw [inv.head.size]; simp; omega
        · intro i h1 h2
          by_cases hi : i < n
          · have := hall i hi
            simp only [Array.getD, h1, dite_true] at this
            simp [hi]
            simpa using this
          · have := inv.head.tail i (by omega) (by rw [← inv.head.size]; exact h1)
            simp only [Array.getD, h1, dite_true] at this
            simp [List.getElem_append, hi]
            simpa using this
      have hact : a' = putF fv γ (l.take n) ks 0 (actOf l.toArray a V (isCalm ks) n) := by
        have e := putF_eq (md := .any) (ops := l.toArray) (a0 := a) (V := V) (fv := fv) (γ := γ) (n := n) hok (l.take n) ks 0 htl hlt (fun j => by simp) (by rw [htl, hks]; omega)
        rw [inv.act, actOf_congr n (vals' := valF ks V fv γ) (done' := fun _ => true) (fun k hk => ⟨hall k hk, fun _ => rfl⟩), ← e]
        congr 1
        refine actOf_congr n fun k hk => ⟨by simp, fun hd => ?_⟩
        have : ks[k]? = some .calm := by simpa [isCalm] using hd
        simp [valF, this]
      have hfresh : Fresh w ks Y γ w' := by
        have hlt2 : ∀ i, ks[i]? = some .fresh → i < n := fun i hi => by have := (List.getElem?_eq_some_iff.1 hi).1; omega
        refine ⟨inv.below, fun i hi => ?_, fun i j hi hj hne => inv.ne i j hi hj (hall i (hlt2 i hi)) (hall j (hlt2 j hj)) hne⟩
        obtain ⟨h1, _, h3, h4⟩ := inv.blocks i hi (hall i (hlt2 i hi))
        refine ⟨h1, ?_⟩
        obtain ⟨o, ho, _⟩ := headB_spec (hok i (hlt2 i hi))
        obtain ⟨⟨_, hy⟩, _⟩ := hob' i o .fresh ho hi
        by_cases hex : ∃ k, k < n ∧ ks[k]? = some (.init i)
        · obtain ⟨k, hk, hki⟩ := hex
          exact h3 k hk hki (hall k hk)
        · rcases hy with hy | ⟨k, hk, hki⟩
          · rw [hy]; exact h4 fun k hk hki => absurd ⟨k, hk, hki⟩ hex
          · exact absurd ⟨k, by omega, hki⟩ hex
      have := wpAny_of_seq (P := P) (ops := l.toArray) (md := .any) (Q' := Q) (l.drop n) n listed a' w' (fun j => by simp [List.getElem?_drop]) (by rw [hdl, hlisted]; exact hseq) (by rw [hact]; exact hrest γ w' hfresh)
      rwa [hdl] at this) n (Array.replicate l.toArray.size false) (fun _ => 0) a (w.drewN 1)
    ⟨inv0, by
      rw [actOf_congr n (vals' := fun _ => undef) (done' := fun _ => false) fun k _ => ⟨getD_replicate_false _ _, fun hd => by rw [getD_replicate_false] at hd; cases hd⟩]
      have : ∀ m, actOf l.toArray a (fun _ => undef) (fun _ => false) m = a := fun m => by
        induction m with
        | zero => rfl
        | succ m ih => simp only [actOf]; exact ih
      exact (this n).symm, below_drewN (Below.refl _ _) 1, fun i _ hl => (by rw [getD_replicate_false] at hl; cases hl), fun i j _ _ hl => (by rw [getD_replicate_false] at hl; cases hl)⟩ (cnt_all _ _)
  rw [show n + (l.toArray.size - n) = l.toArray.size by omega] at key
  exact key
set_option maxRecDepth 100000 in
theorem wp_region_fresh {id : Nat} {Q : Exit → Act → World → Prop} {a : Act} {w : World} {l : List Oper} (n : Nat) (ks : List HK) (X Y : Nat → Obj) (fv : Nat → Nat → Value) (hm : P.follows .mixedOrders = true)
    (hB : freshB .any l.toArray n ks = true) (hsz : szB l.toArray ks a.tmps.size = true)
    (h : ∀ R, Lasting w R → wpQuiet P l.toArray (fun w' => ∃ m : BlR w R, w' = m.wr) (fun a' => obF P l.toArray w a' X Y fv ks (l.take n) ks 0 ∧
      ∀ γ w', Fresh w ks Y γ w' → wpList P l.toArray Q (l.drop n) (putF fv γ (l.take n) ks 0 a') w') (calmL (l.take n) ks) a) : (Code.region id l.toArray true).wp P Q a w :=
  wp_region_any hm (wpAny_fresh n ks X Y fv hB hsz h)
end
end Go.Proofs.YtllgodaphoncnaaGreatDoor
