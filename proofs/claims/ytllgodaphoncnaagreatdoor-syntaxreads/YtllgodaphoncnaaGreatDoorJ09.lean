/- The same: every order; The operations that make blocks and fill them. No program is named here. -/
import Derived.Test.YtllgodaphoncnaaGreatDoorJ08
import Derived.Test.YtllgodaphoncnaaGreatDoorMem
namespace Go.Proofs.YtllgodaphoncnaaGreatDoor
open Go RowKit

section
variable {P : Program} {ops : Array Oper} {md : Region.Mode}

set_option maxRecDepth 100000 in
theorem operB_eval {n i m : Nat} {ks : List HK} {x : Operand} {a0 : Act} {V vals : Nat → Value} {listed : Array Bool} (hx : operB md ops n ks i x = true)
    (hok : ∀ k, k < n → headB md ops n ks k = true) (hm : i ≤ m) (hmn : m ≤ n)
    (hw : ∀ j, Region.waitsFor md ops i j = true → listed.getD j false = true) (hv : ∀ j, isCalm ks j = true → vals j = V j) :
    (actOf ops a0 vals (fun k => listed.getD k false) n).eval x = (actOf ops a0 V (isCalm ks) m).eval x := by
  cases x with
  | tmp t =>
    simp only [operB, List.all_eq_true, List.mem_range, Bool.or_eq_true, bne_iff_ne, ne_eq, Bool.and_eq_true, decide_eq_true_eq] at hx
    by_cases hj : ∃ j, j < n ∧ dstAt ops j = some t
    · obtain ⟨j, hj, ht⟩ := hj
      rcases hx j hj with h | ⟨⟨hc, hji⟩, hwj⟩
      · exact absurd ht h
      · have hu : ∀ k, k < n → k ≠ j → dstAt ops k ≠ some t := by
          obtain ⟨o, ho, hh⟩ := headB_spec (hok j hj)
          have hd : o.dst = some t := by simpa [dstAt, ho] using ht
          exact fun k hk hne => hh.dst k hk hne t hd
        rw [actOf_eval_some (hw j hwj) ht n hj hu, actOf_eval_some hc ht m (by omega) fun k hk => hu k (by omega), hv j hc]
    · rw [actOf_eval_none n fun k hk _ he => hj ⟨k, hk, he⟩, actOf_eval_none m fun k hk _ he => hj ⟨k, by omega, he⟩]
  | _ => rfl

/-- what holds whatever part of the head is done -/
structure FInv (md : Region.Mode) (ops : Array Oper) (n : Nat) (ks : List HK) (a0 : Act) (w0 : World) (V : Nat → Value) (fv : Nat → Nat → Value) (X Y : Nat → Obj) (listed : Array Bool) (γ : Nat → Nat) (a : Act) (w : World) : Prop where
  head : HeadInv md ops n listed
  act : a = actOf ops a0 (valF ks V fv γ) (fun k => listed.getD k false) n
  below : Below w0.heap.size w0 w
  blocks : ∀ i, ks[i]? = some .fresh → listed.getD i false = true → w0.heap.size ≤ γ i ∧ γ i < w.heap.size ∧
    (∀ k, k < n → ks[k]? = some (.init i) → listed.getD k false = true → w.heap[γ i]? = some (Y i)) ∧ ((∀ k, k < n → ks[k]? = some (.init i) → listed.getD k false = false) → w.heap[γ i]? = some (X i))
  ne : ∀ i j, ks[i]? = some .fresh → ks[j]? = some .fresh → listed.getD i false = true → listed.getD j false = true → i ≠ j → γ i ≠ γ j

set_option maxRecDepth 100000 in
theorem getD_set_iff {listed : Array Bool} {i : Nat} (hs : i < listed.size) : (fun k => (listed.setIfInBounds i true).getD k false) = fun k => k == i || listed.getD k false := by
  funext k
  by_cases h : k = i
  · subst h; simp [hs]
  · rw [getD_set_ne false (Ne.symm h)]; simp [h]

/-- the slots that point to blocks to be filled are slots -/
def szB (ops : Array Oper) (ks : List HK) (m : Nat) : Bool :=
  (List.range ks.length).all fun i => match ks[i]? with
    | some (.init t) => (match dstAt ops t with | some d => decide (d < m) | none => true)
    | _ => true
set_option maxRecDepth 100000 in
theorem szB_spec {ks : List HK} {m i t d : Nat} (h : szB ops ks m = true) (hi : ks[i]? = some (.init t)) (hd : dstAt ops t = some d) : d < m := by
  have hlt : i < ks.length := (List.getElem?_eq_some_iff.1 hi).1
  have := List.all_eq_true.1 h i (List.mem_range.2 hlt)
  simpa [hi, hd] using this

set_option maxRecDepth 100000 in
theorem fresh_any {Q : Exit → Act → World → Prop} {n g : Nat} {ks : List HK} {a0 : Act} {w0 : World} {V : Nat → Value} {fv : Nat → Nat → Value} {X Y : Nat → Obj} (hn : n < ops.size) (hks : ks.length = n)
    (hs : Region.sinkB md ops n = true) (hc : Region.chainB md ops n = true) (hsel : Region.noSelect ops = true) (hsz : szB ops ks a0.tmps.size = true) (hok : ∀ k, k < n → headB md ops n ks k = true)
    (hcalm : ∀ (i : Nat) (o : Oper), ks[i]? = some HK.calm → ops[i]? = some o → ∀ w', Below w0.heap.size w0 w' → o.quietAt P (actOf ops a0 V (isCalm ks) i) (Below w'.heap.size w') w' (V i))
    (hob : ∀ (i : Nat) (o : Oper) (q : HK), ops[i]? = some o → ks[i]? = some q → obF P ops w0 (actOf ops a0 V (isCalm ks) n) X Y fv ks [o] [q] i)
    (hend : ∀ listed γ a w, FInv md ops n ks a0 w0 V fv X Y listed γ a w → (∀ k, k < n → listed.getD k false = true) → wpAny P md ops Q g listed a w) :
    ∀ f listed γ a w, FInv md ops n ks a0 w0 V fv X Y listed γ a w → cnt listed n = f → wpAny P md ops Q (f + g) listed a w := by
  intro f
  induction f with
  | zero => intro listed γ a w inv hf; rw [Nat.zero_add]; exact hend _ _ _ _ inv (cnt_zero n hf)
  | succ f ih =>
    intro listed γ a w inv hf
    rw [show f + 1 + g = (f + g) + 1 by omega]
    obtain ⟨k0, hk0, hun0, hall0⟩ := cnt_none n (show cnt listed n ≠ 0 by omega)
    have hls := inv.head.size
    obtain ⟨o0, ho0, hh0⟩ := headB_spec (hok k0 hk0)
    have hr0 : k0 ∈ Region.ready md ops listed := mem_ready.2 ⟨getD_in (by omega) hun0, o0, ho0, fun e he hb => hall0 _ (hh0.order e he hb)⟩
    refine ⟨fun h0 => (by rw [h0] at hr0; cases hr0), fun i hi => ?_⟩
    have hin : i < n := (Nat.lt_or_ge i n).elim id fun h => absurd hi (tail_waits hs hc hn inv.head _ k0 rfl hk0 (getD_in (by omega) hun0) i h)
    obtain ⟨o, ho, hh⟩ := headB_spec (hok i hin)
    obtain ⟨hiun, o', ho', hbind⟩ := mem_ready.1 hi
    rw [ho] at ho'; cases ho'
    have hiun' : listed.getD i false = false := getD_both hiun
    have hwait : ∀ j, Region.waitsFor md ops i j = true → listed.getD j false = true := fun j hj => by
      obtain ⟨o2, ho2, e, he, hb, hon⟩ := Region.waitsFor_spec hj
      rw [ho] at ho2; cases ho2
      rw [← hon]; exact hbind e he hb
    have hcnt : cnt (listed.setIfInBounds i true) n = f := by have := (cnt_set (by omega) hiun' n).1 hin; omega
    have hset := getD_set_iff (listed := listed) (i := i) (by omega)
    have hdst : dstAt ops i = o.dst := by simp [dstAt, ho]
    have hnew : ∀ γ' : Nat → Nat, (∀ j, ks[j]? = some .fresh → listed.getD j false = true → γ' j = γ j) →
        a.put o.dst (valF ks V fv γ' i) = actOf ops a0 (valF ks V fv γ') (fun k => (listed.setIfInBounds i true).getD k false) n := fun γ' hγ => by
      rw [hset, actOf_set hiun' n hin (fun k hk hne d hd => hh.dst k hk hne d (by rw [← hdst]; exact hd)), hdst, inv.act]
      congr 1
      refine actOf_congr n fun k hk => ⟨rfl, fun hd => ?_⟩
      unfold valF
      split
      · rename_i hfr; rw [hγ k hfr hd]
      · rfl
      · rfl
    have hval : ∀ γ' j, isCalm ks j = true → valF ks V fv γ' j = V j := fun γ' j hj => by
      have : ks[j]? = some .calm := by simpa [isCalm] using hj
      simp [valF, this]
    have hl1 : ∀ j, (listed.setIfInBounds i true).getD j false = true → j ≠ i → listed.getD j false = true := fun j hj hne => by rwa [getD_set_ne false (Ne.symm hne)] at hj
    have hw1 : Region.wanted o (yielded ops a.tmps) = true := by simp [Region.wanted, hh.guard]
    unfold wpOp
    simp only [ho, hw1, if_true]
    refine .inl ?_
    have hiks : i < ks.length := by omega
    have hq : ks[i]? = some ks[i] := List.getElem?_eq_getElem hiks
    generalize ks[i] = q at hq
    cases q with
    | calm =>
      have hsame : execOp a.eval o = execOp (actOf ops a0 V (isCalm ks) i).eval o :=
        execOp_congr o (fun cs b => Region.noSelect_spec hsel i o cs b ho) fun x hx => by
          rw [inv.act]
          exact operB_eval (hh.oper (fun t ht => by rw [hq] at ht; cases ht) x hx) hok (Nat.le_refl _) (by omega) hwait (hval γ)
      have hqa : o.quietAt P a (Below w.heap.size w) w (V i) := by
        have := hcalm i o hq ho w inv.below
        unfold Oper.quietAt at *
        rw [hsame]; exact this
      refine wp_of_quietAt (Below.refl _ _) hqa fun w' hb => ih _ γ _ w' ⟨inv.head.set hi hin, ?_, inv.below.trans (hb.mono inv.below.size), fun j hj hjl => ?_, fun j k hj hk hjl hkl hne => ?_⟩ hcnt
      · rw [← hnew γ fun _ _ _ => rfl]
        simp [valF, hq]
      · have hne : j ≠ i := fun e => by rw [e, hq] at hj; cases hj
        obtain ⟨h1, h2, h3, h4⟩ := inv.blocks j hj (hl1 j hjl hne)
        refine ⟨h1, Nat.lt_of_lt_of_le h2 hb.size, fun k hk hki hkl => ?_, fun hno => ?_⟩
        · rw [hb.block _ h2]
          have hki2 : k ≠ i := fun e => by rw [e, hq] at hki; cases hki
          exact h3 k hk hki (hl1 k hkl hki2)
        · rw [hb.block _ h2]
          refine h4 fun k hk hki => ?_
          have hki2 : k ≠ i := fun e => by rw [e, hq] at hki; cases hki
          have := hno k hk hki
          rwa [getD_set_ne false (Ne.symm hki2)] at this
      · have h1 : j ≠ i := fun e => by rw [e, hq] at hj; cases hj
        have h2 : k ≠ i := fun e => by rw [e, hq] at hk; cases hk
        exact inv.ne j k hj hk (hl1 j hjl h1) (hl1 k hkl h2) hne
    | fresh =>
      obtain ⟨⟨hrun, _⟩, _⟩ := hob i o .fresh ho hq
      have hr := hrun a w inv.below fun x hx => by
        rw [inv.act]
        exact operB_eval (hh.oper (fun t ht => by rw [hq] at ht; cases ht) x hx) hok (by omega) (Nat.le_refl _) hwait (hval γ)
      unfold Oper.wp
      rw [hr]
      simp only [Oper.upon]
      have hγ : ∀ j, ks[j]? = some .fresh → listed.getD j false = true → (fun j => if j = i then w.heap.size else γ j) j = γ j := fun j _ hj => by
        have : j ≠ i := fun e => by rw [e, hiun'] at hj; cases hj
        simp [this]
      refine ih _ (fun j => if j = i then w.heap.size else γ j) _ _ ⟨inv.head.set hi hin, ?_, inv.below.alloc inv.below.size _, fun j hj hjl => ?_, fun j k hj hk hjl hkl hne => ?_⟩ hcnt
      · rw [← hnew _ hγ]
        simp [valF, hq]
      · have noinit : ∀ k, k < n → ks[k]? = some (.init i) → listed.getD k false = false := fun k hk hki => by
          cases hd : listed.getD k false with
          | false => rfl
          | true =>
            obtain ⟨o3, ho3, hh3⟩ := headB_spec (hok k hk)
            obtain ⟨_, _, _, hwt, _⟩ := hh3.init i hki
            obtain ⟨o4, ho4, e, he, hb, hon⟩ := Region.waitsFor_spec hwt
            have := inv.head.closed k o4 ho4 hd e he hb
            rw [hon, hiun'] at this; cases this
        by_cases hji : j = i
        · subst hji
          simp only [if_true]
          refine ⟨inv.below.size, by simp only [World.size_alloc]; omega, fun k hk hki hkl => ?_, fun _ => heap_alloc_new _ _⟩
          have hkj : k ≠ j := fun e => by rw [e, hq] at hki; cases hki
          have := noinit k hk hki
          rw [hl1 k hkl hkj] at this; cases this
        · obtain ⟨h1, h2, h3, h4⟩ := inv.blocks j hj (hl1 j hjl hji)
          simp only [if_neg hji]
          have hold : (w.alloc (X i)).heap[γ j]? = w.heap[γ j]? := by simp only [World.alloc]; rw [Array.getElem?_push_lt h2, Array.getElem?_eq_getElem h2]
          refine ⟨h1, by simp only [World.size_alloc]; omega, fun k hk hki hkl => ?_, fun hno => ?_⟩
          · rw [hold]
            have hki2 : k ≠ i := fun e => by rw [e, hq] at hki; cases hki
            exact h3 k hk hki (hl1 k hkl hki2)
          · rw [hold]
            refine h4 fun k hk hki => ?_
            have hki2 : k ≠ i := fun e => by rw [e, hq] at hki; cases hki
            have := hno k hk hki
            rwa [getD_set_ne false (Ne.symm hki2)] at this
      · by_cases h1 : j = i
        · by_cases h2 : k = i
          · exact absurd (h1.trans h2.symm) hne
          · simp only [if_pos h1, if_neg h2]
            have := (inv.blocks k hk (hl1 k hkl h2)).2.1
            omega
        · by_cases h2 : k = i
          · simp only [if_neg h1, if_pos h2]
            have := (inv.blocks j hj (hl1 j hjl h1)).2.1
            omega
          · simp only [if_neg h1, if_neg h2]
            exact inv.ne j k hj hk (hl1 j hjl h1) (hl1 k hkl h2) hne
    | init t =>
      obtain ⟨hdn, htn, htf, htw, htd, huniq, hop⟩ := hh.init t hq
      have htl : listed.getD t false = true := hwait t htw
      obtain ⟨b1, b2, b3, b4⟩ := inv.blocks t htf htl
      obtain ⟨hrun, _⟩ := hob i o (.init t) ho hq
      obtain ⟨d, hd⟩ := Option.isSome_iff_exists.1 htd
      have hnoinit : ∀ k, k < n → ks[k]? = some (.init t) → listed.getD k false = false := fun k hk hki => by
        by_cases hkk : k = i
        · rw [hkk]; exact hiun'
        · exact absurd hki (huniq k hk hkk)
      have hptr : a.eval (.tmp d) = fv t (γ t) := by
        have hlt := szB_spec hsz hq hd
        obtain ⟨o5, ho5, hh5⟩ := headB_spec (hok t htn)
        have hd5 : o5.dst = some d := by simpa [dstAt, ho5] using hd
        rw [inv.act, actOf_eval_some htl hd n htn fun k hk hne => hh5.dst k hk hne d hd5]
        simp [Act.eval, Act.put, valF, htf, hlt]
      obtain ⟨w', hr, hs1⟩ := hrun a w (γ t) inv.below (fun x hx => by
        rcases hop x hx with h | h
        · exact .inl h
        · right
          rw [inv.act]
          exact operB_eval h hok (by omega) (Nat.le_refl _) hwait (hval γ)) (fun d' hd' => by rw [hd] at hd'; cases hd'; exact hptr) (b4 hnoinit)
      unfold Oper.wp
      rw [hr]
      simp only [Oper.upon]
      have hb' : Below w0.heap.size w0 w' := ⟨hs1.os.trans inv.below.os, hs1.tape.trans inv.below.tape, hs1.output.trans inv.below.output, by rw [hs1.size]; exact inv.below.size,
        fun k hk => by rw [hs1.old k (by omega)]; exact inv.below.block k hk⟩
      refine ih _ γ _ w' ⟨inv.head.set hi hin, ?_, hb', fun j hj hjl => ?_, fun j k hj hk hjl hkl hne => ?_⟩ hcnt
      · rw [← hnew γ fun _ _ _ => rfl]
        simp [valF, hq]
      · have hji : j ≠ i := fun e => by rw [e, hq] at hj; cases hj
        obtain ⟨h1, h2, h3, h4⟩ := inv.blocks j hj (hl1 j hjl hji)
        by_cases hjt : j = t
        · subst hjt
          refine ⟨h1, by rw [hs1.size]; exact h2, fun _ _ _ _ => hs1.new, fun hno => ?_⟩
          have := hno i hin hq
          rw [show (listed.setIfInBounds i true).getD i false = true by simp [show i < listed.size by omega]] at this; cases this
        · have hgne : γ j ≠ γ t := inv.ne j t hj htf (hl1 j hjl hji) htl hjt
          refine ⟨h1, by rw [hs1.size]; exact h2, fun k hk hki hkl => ?_, fun hno => ?_⟩
          · rw [hs1.old _ hgne]
            have hki2 : k ≠ i := fun e => by rw [e, hq] at hki; cases hki; exact hjt rfl
            exact h3 k hk hki (hl1 k hkl hki2)
          · rw [hs1.old _ hgne]
            refine h4 fun k hk hki => ?_
            have hki2 : k ≠ i := fun e => by rw [e, hq] at hki; cases hki; exact hjt rfl
            have := hno k hk hki
            rwa [getD_set_ne false (Ne.symm hki2)] at this
      · have h1 : j ≠ i := fun e => by rw [e, hq] at hj; cases hj
        have h2 : k ≠ i := fun e => by rw [e, hq] at hk; cases hk
        exact inv.ne j k hj hk (hl1 j hjl h1) (hl1 k hkl h2) hne

/-- the new blocks' pointers, laid behind the walk -/
def putF (fv : Nat → Nat → Value) (γ : Nat → Nat) : List Oper → List HK → Nat → Act → Act
  | o :: l, .fresh :: ks, i, a => putF fv γ l ks (i + 1) (a.put o.dst (fv i (γ i)))
  | _ :: l, .calm :: ks, i, a => putF fv γ l ks (i + 1) a
  | _ :: l, .init _ :: ks, i, a => putF fv γ l ks (i + 1) a
  | _, _, _, a => a
/-- what is known of them -/
structure Fresh (w0 : World) (ks : List HK) (Y : Nat → Obj) (γ : Nat → Nat) (w : World) : Prop where
  below : Below w0.heap.size w0 w
  block : ∀ i, ks[i]? = some .fresh → w0.heap.size ≤ γ i ∧ w.heap[γ i]? = some (Y i)
  ne : ∀ i j, ks[i]? = some .fresh → ks[j]? = some .fresh → i ≠ j → γ i ≠ γ j

set_option maxRecDepth 100000 in
theorem putF_eq {a0 : Act} {V : Nat → Value} {fv : Nat → Nat → Value} {γ : Nat → Nat} {ks : List HK} {n : Nat} (hok : ∀ k, k < n → headB md ops n ks k = true) : ∀ (l : List Oper) (ks' : List HK) (k : Nat), l.length = ks'.length → (∀ j, j < l.length → l[j]? = ops[k + j]?) → (∀ j, ks'[j]? = ks[k + j]?) → k + l.length = n →
    putF fv γ l ks' k (actOf ops a0 (valF ks V fv γ) (fun j => isCalm ks j || decide (j < k)) n) = actOf ops a0 (valF ks V fv γ) (fun _ => true) n
  | [], ks', k, hlen, _, _, hk => by
    have : ks' = [] := by cases ks' with | nil => rfl | cons => simp at hlen
    subst this
    have hk' : k = n := by simpa using hk
    subst hk'
    exact actOf_congr k fun j hj => ⟨by simp [hj], fun _ => rfl⟩
  | o :: l, [], k, hlen, _, _, _ => by simp at hlen
  | o :: l, q :: ks', k, hlen, hl, hk, hn => by
    have h0 : ops[k]? = some o := by simpa using (hl 0 (by simp)).symm
    have hk0 : ks[k]? = some q := by simpa using (hk 0).symm
    have hl' : ∀ j, j < l.length → l[j]? = ops[k + 1 + j]? := fun j hj => by have := hl (j + 1) (by simp; omega); simpa [Nat.add_assoc, Nat.add_comm 1 j] using this
    have hk' : ∀ j, ks'[j]? = ks[k + 1 + j]? := fun j => by have := hk (j + 1); simpa [Nat.add_assoc, Nat.add_comm 1 j] using this
    have hkn : k < n := by simp at hn; omega
    have ih := putF_eq (a0 := a0) (V := V) (fv := fv) (γ := γ) hok l ks' (k + 1) (by simpa using hlen) hl' hk' (by simp at hn; omega)
    obtain ⟨o', ho', hh⟩ := headB_spec (hok k hkn)
    rw [h0] at ho'; cases ho'
    have hdst : dstAt ops k = o.dst := by simp [dstAt, h0]
    have step : isCalm ks k = false → actOf ops a0 (valF ks V fv γ) (fun j => isCalm ks j || decide (j < k + 1)) n = (actOf ops a0 (valF ks V fv γ) (fun j => isCalm ks j || decide (j < k)) n).put o.dst (valF ks V fv γ k) := fun hc => by
      rw [← hdst, ← actOf_set (by simp [hc]) n hkn fun j hj hne d hd => hh.dst j hj hne d (by rw [← hdst]; exact hd)]
      refine actOf_congr n fun j hj => ⟨?_, fun _ => rfl⟩
      by_cases hjk : j = k
      · subst hjk; simp
      · have e : decide (j < k + 1) = decide (j < k) := by rw [decide_eq_decide]; omega
        simp [hjk, e]
    cases q with
    | calm =>
      simp only [putF]
      rw [← ih]
      congr 1
      refine actOf_congr n fun j hj => ⟨?_, fun _ => rfl⟩
      by_cases hjk : j = k
      · subst hjk; simp [isCalm, hk0]
      · have e : decide (j < k + 1) = decide (j < k) := by rw [decide_eq_decide]; omega
        simp [e]
    | fresh =>
      simp only [putF]
      rw [← ih, step (by simp [isCalm, hk0])]
      simp [valF, hk0]
    | init t =>
      simp only [putF]
      rw [← ih, step (by simp [isCalm, hk0]), (hh.init t hk0).1]
      rfl

set_option maxRecDepth 100000 in
/-- A region of reads, quiet callees, new blocks and what fills them, then a tail in one order. -/
theorem wpAny_fresh {Q : Exit → Act → World → Prop} {a : Act} {w : World} {l : List Oper} (n : Nat) (ks : List HK) (X Y : Nat → Obj) (fv : Nat → Nat → Value)
    (hB : freshB .any l.toArray n ks = true) (hsz : szB l.toArray ks a.tmps.size = true)
    (h : ∀ R, Lasting w R → wpQuiet P l.toArray (fun w' => ∃ m : BlR w R, w' = m.wr) (fun a' => obF P l.toArray w a' X Y fv ks (l.take n) ks 0 ∧
      ∀ γ w', Fresh w ks Y γ w' → wpList P l.toArray Q (l.drop n) (putF fv γ (l.take n) ks 0 a') w') (calmL (l.take n) ks) a) : wpAny P .any l.toArray Q l.toArray.size (Array.replicate l.toArray.size false) a (w.drewN 1) := by
  simp only [freshB, Bool.and_eq_true, decide_eq_true_eq, List.all_eq_true, List.mem_range] at hB
  obtain ⟨⟨⟨⟨⟨⟨hsel, hn⟩, hks⟩, hs⟩, hc⟩, hseq⟩, hok⟩ := hB
  have hn' : n < l.length := by simpa using hn
  have htl : (l.take n).length = ks.length := by simp; omega
  have hdl : (l.drop n).length = l.toArray.size - n := by simp
  have hguard : ∀ (l' : List Oper) (ks' : List HK) (k : Nat), (∀ j, j < l'.length → l'[j]? = l.toArray[k + j]?) → k + l'.length ≤ n → ∀ o ∈ calmL l' ks', o.guard = none := by
    intro l'
    induction l' with
    | nil => intro ks' k _ _ o ho; cases ks' <;> simp [calmL] at ho
    | cons o' l' ih =>
      intro ks' k hl hk o ho
      have ih' := fun ks'' => ih ks'' (k + 1) (fun j hj => by have := hl (j + 1) (by simp; omega); simpa [Nat.add_assoc, Nat.add_comm 1 j] using this) (by simp at hk; omega)
      cases ks' with
      | nil => simp [calmL] at ho
      | cons q ks' =>
        cases q with
        | calm =>
          simp only [calmL, List.mem_cons] at ho
          rcases ho with rfl | ho
          · obtain ⟨o2, ho2, hh⟩ := headB_spec (hok k (by simp at hk; omega))
            have h0 : l.toArray[k]? = some o := by simpa using (hl 0 (by simp)).symm
            rw [h0] at ho2; cases ho2
            exact hh.guard
          · exact ih' _ o ho
        | fresh => exact ih' _ o ho
        | init t => exact ih' _ o ho
  have hlt : ∀ j, j < (l.take n).length → (l.take n)[j]? = l.toArray[0 + j]? := fun j hj => by
    have hj' : j < n := by rw [htl, hks] at hj; exact hj
    simp [hj']
  have hcalm := wpCalm_of_quiet (calmL (l.take n) ks) a (hguard _ ks 0 hlt (by rw [htl]; omega)) h
  obtain ⟨V, _, hc1, hob, hrest⟩ := walk_vals (ops := l.toArray) (a0 := a) (ks := ks) (l.take n) ks 0 (fun _ => undef) htl hlt (fun j => by simp) (by simpa [actOf] using hcalm)
  rw [Nat.zero_add, htl, hks] at hob hrest
  have inv0 : HeadInv .any l.toArray n (Array.replicate l.toArray.size false) :=
    ⟨by simp, fun j oj _ hl => (by rw [getD_replicate_false] at hl; cases hl), fun t _ ht => getD_in (by simpa using ht) (getD_replicate_false _ _)⟩
  have hob' : ∀ (i : Nat) (o : Oper) (q : HK), l.toArray[i]? = some o → ks[i]? = some q → obF P l.toArray w (actOf l.toArray a V (isCalm ks) n) X Y fv ks [o] [q] i := fun i o q ho hq => by
    have hi : i < n := by have := (List.getElem?_eq_some_iff.1 hq).1; omega
    have := obF_at (l.take n) ks 0 hob i o q (by rw [hlt i (by rw [htl, hks]; exact hi), Nat.zero_add]; exact ho) hq
    rwa [Nat.zero_add] at this
  have key := fresh_any (P := P) (ops := l.toArray) (md := .any) (Q := Q) (n := n) (g := l.toArray.size - n) (ks := ks) (a0 := a) (w0 := w) (V := V) (fv := fv) (X := X) (Y := Y) hn hks hs hc hsel hsz hok
    (fun i o hi ho => hc1 i o (Nat.zero_le _) hi ho) hob' (fun listed γ a' w' inv hall => by
      have hlisted : listed = (List.replicate n true ++ List.replicate (l.toArray.size - n) false).toArray := by
        apply Array.ext
        · rw [inv.head.size]; simp; omega
        · intro i h1 h2
          by_cases hi : i < n
          · have := hall i hi
            simp only [Array.getD, h1, dite_true] at this
            simp [hi]
            simpa using this
          · have := inv.head.tail i (by omega) (by rw [← inv.head.size]; exact h1)
            simp only [Array.getD, h1, dite_true] at this
            simp [List.getElem_append, hi]
            simpa using this
      have hact : a' = putF fv γ (l.take n) ks 0 (actOf l.toArray a V (isCalm ks) n) := by
        have e := putF_eq (md := .any) (ops := l.toArray) (a0 := a) (V := V) (fv := fv) (γ := γ) (n := n) hok (l.take n) ks 0 htl hlt (fun j => by simp) (by rw [htl, hks]; omega)
        rw [inv.act, actOf_congr n (vals' := valF ks V fv γ) (done' := fun _ => true) (fun k hk => ⟨hall k hk, fun _ => rfl⟩), ← e]
        congr 1
        refine actOf_congr n fun k hk => ⟨by simp, fun hd => ?_⟩
        have : ks[k]? = some .calm := by simpa [isCalm] using hd
        simp [valF, this]
      have hfresh : Fresh w ks Y γ w' := by
        have hlt2 : ∀ i, ks[i]? = some .fresh → i < n := fun i hi => by have := (List.getElem?_eq_some_iff.1 hi).1; omega
        refine ⟨inv.below, fun i hi => ?_, fun i j hi hj hne => inv.ne i j hi hj (hall i (hlt2 i hi)) (hall j (hlt2 j hj)) hne⟩
        obtain ⟨h1, _, h3, h4⟩ := inv.blocks i hi (hall i (hlt2 i hi))
        refine ⟨h1, ?_⟩
        obtain ⟨o, ho, _⟩ := headB_spec (hok i (hlt2 i hi))
        obtain ⟨⟨_, hy⟩, _⟩ := hob' i o .fresh ho hi
        by_cases hex : ∃ k, k < n ∧ ks[k]? = some (.init i)
        · obtain ⟨k, hk, hki⟩ := hex
          exact h3 k hk hki (hall k hk)
        · rcases hy with hy | ⟨k, hk, hki⟩
          · rw [hy]; exact h4 fun k hk hki => absurd ⟨k, hk, hki⟩ hex
          · exact absurd ⟨k, by omega, hki⟩ hex
      have := wpAny_of_seq (P := P) (ops := l.toArray) (md := .any) (Q' := Q) (l.drop n) n listed a' w' (fun j => by simp [List.getElem?_drop]) (by rw [hdl, hlisted]; exact hseq) (by rw [hact]; exact hrest γ w' hfresh)
      rwa [hdl] at this) n (Array.replicate l.toArray.size false) (fun _ => 0) a (w.drewN 1)
    ⟨inv0, by
      rw [actOf_congr n (vals' := fun _ => undef) (done' := fun _ => false) fun k _ => ⟨getD_replicate_false _ _, fun hd => by rw [getD_replicate_false] at hd; cases hd⟩]
      have : ∀ m, actOf l.toArray a (fun _ => undef) (fun _ => false) m = a := fun m => by
        induction m with
        | zero => rfl
        | succ m ih => simp only [actOf]; exact ih
      exact (this n).symm, below_drewN (Below.refl _ _) 1, fun i _ hl => (by rw [getD_replicate_false] at hl; cases hl), fun i j _ _ hl => (by rw [getD_replicate_false] at hl; cases hl)⟩ (cnt_all _ _)
  rw [show n + (l.toArray.size - n) = l.toArray.size by omega] at key
  exact key
set_option maxRecDepth 100000 in
theorem wp_region_fresh {id : Nat} {Q : Exit → Act → World → Prop} {a : Act} {w : World} {l : List Oper} (n : Nat) (ks : List HK) (X Y : Nat → Obj) (fv : Nat → Nat → Value) (hm : P.follows .mixedOrders = true)
    (hB : freshB .any l.toArray n ks = true) (hsz : szB l.toArray ks a.tmps.size = true)
    (h : ∀ R, Lasting w R → wpQuiet P l.toArray (fun w' => ∃ m : BlR w R, w' = m.wr) (fun a' => obF P l.toArray w a' X Y fv ks (l.take n) ks 0 ∧
      ∀ γ w', Fresh w ks Y γ w' → wpList P l.toArray Q (l.drop n) (putF fv γ (l.take n) ks 0 a') w') (calmL (l.take n) ks) a) : (Code.region id l.toArray true).wp P Q a w :=
  wp_region_any hm (wpAny_fresh n ks X Y fv hB hsz h)
end
end Go.Proofs.YtllgodaphoncnaaGreatDoor
namespace Go.Proofs.YtllgodaphoncnaaGreatDoor
open Go RowKit

section
variable {P : Program}
set_option maxRecDepth 100000 in
theorem run_alloc_op {o : Oper} {ρ : Operand → Value} (ty : TypeId) (ho : o.op = .alloc ty) (Z : List Value) (hz : ∀ w, (zeroValue ty).run P w = .ok (.agg Z.toArray) w) (w : World) :
    (execOp ρ o).run P w = .ok (.value (.pointer (some ⟨w.heap.size, 0, none⟩))) (w.alloc (.cells Z.toArray ty)) := by
  simp [execOp, ho, Instr.alloc, hz, Value.cells, go_sem]
set_option maxRecDepth 100000 in
theorem set1_setRow {w : World} {G : Nat} {old cells : Array Value} {t : TypeId} (hg : w.heap[G]? = some (.cells old t (0, 0))) : Set1 G (.cells cells t (0, 0)) w (w.setRow G cells) :=
  ⟨rfl, rfl, rfl, by simp [World.setRow], setRow_heap w G old cells t _ hg, fun k hk => by simp [World.setRow, Array.getElem?_modify, Ne.symm hk]⟩
set_option maxRecDepth 100000 in
theorem run_fill {o : Oper} {a : Act} {w : World} (ty : TypeId) (x y : Operand) (ho : o.op = .store ty x y) (G : Nat) (L : List Value) (hx : a.eval x = .pointer (some ⟨G, 0, none⟩)) (hy : a.eval y = .agg L.toArray)
    (t : TypeId) (Z : List Value) (hg : w.heap[G]? = some (.cells Z.toArray t (0, 0))) (hi : (P.info? ty).map (·.size) = some L.length) (hZ : Z.length = L.length) (h1 : ∀ v ∈ L, v.oneCell' = true) :
    ∃ w'', (execOp a.eval o).run P w = .ok .skip w'' ∧ Set1 G (.cells L.toArray t (0, 0)) w w'' := by
  refine ⟨w.setRow G L.toArray, ?_, set1_setRow hg⟩
  unfold execOp
  simp only [ho, hx, hy, Instr.storeAt, Instr.sureAddr, Sem.run_bind, Sem.run_pure, Result.andThen_ok, run_storeVar_row w G t ty Z.toArray L.toArray hg (by simpa using hi) (by simpa using hZ) (all_oneCell_toArray h1)]
set_option maxRecDepth 100000 in
theorem Lasting.nonempty {w0 : World} {R : World → Prop} (h : Lasting w0 R) : Nonempty (BlR w0 R) := let ⟨w, hb, hr⟩ := h.some; ⟨⟨w, hb, hr⟩⟩
set_option maxRecDepth 100000 in
theorem Set1.below {G : Nat} {Y : Obj} {w0 w w' : World} {B : Nat} (h : Set1 G Y w w') (hb : Below B w0 w) (hg : B ≤ G) : Below B w0 w' :=
  ⟨h.os.trans hb.os, h.tape.trans hb.tape, h.output.trans hb.output, by rw [h.size]; exact hb.size, fun k hk => by rw [h.old k (by omega)]; exact hb.block k hk⟩
set_option maxRecDepth 100000 in
/-- a range lies where it lay -/
theorem range_below {B : Nat} {w w' : World} (hb : Below B w w') {g o : Nat} {L : List Value} (h : w.rangeAt g o L) (hg : g < B) : w'.rangeAt g o L := fun j v hv => by
  rw [hb.cell (by exact hg)]; exact h j v hv
end
end Go.Proofs.YtllgodaphoncnaaGreatDoor
