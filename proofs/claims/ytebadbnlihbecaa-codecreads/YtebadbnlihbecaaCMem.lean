/- P3.2: a bag's values read. -/
import Derived.Test.YtebadbnlihbecaaCInV
import Derived.Test.YtebadbnlihbecaaRows4
namespace Go.Proofs.Ytebadbnlihbecaa
open Go.RowKit

/-- what the loop over a bag's values keeps -/
structure MemRel (w : World) (t : Nat) (T : TypeId) (v : Value) (l : List Val) (st : Option ByteArray) (wr : World) : Prop where
  own : Owns wr w.heap.size v l
  tape : Tape wr t T st
  kept : Kept1 t w wr
theorem own_kept {w w' : World} {base t : Nat} {v : Value} {l : List Val} (h : Owns w base v l) (hk : Kept1 t w w') (ht : t < base) : Owns w' base v l :=
  ⟨own_on4 h.row fun g hg hl => hk.block g hl (by omega)⟩

theorem kept_own {w w' w'' : World} {t : Nat} (hk : Kept1 t w w') (hb : Below w.heap.size w' w'') : Kept1 t w w'' :=
  ⟨hb.os.trans hk.os, hb.tape.trans hk.tape, hb.output.trans hk.output, Nat.le_trans hk.size hb.size, fun k h1 h2 => (hb.block k h1).trans (hk.block k h1 h2)⟩
set_option maxRecDepth 100000 in
set_option maxHeartbeats 2000000 in
theorem members_any (w : World) (t : Nat) (T : TypeId) (st : Option ByteArray) (h : Tape w t T st) :
    Calls Try.prog 43 #[.pointer (some ⟨t, 0, none⟩)] w fun e w' => ∃ v, e = .returned v ∧ MemRel w t T v (memM st).1 (memM st).2 w' := by
  have N := Lib.hid (inU8_any w t T st h)
  have hn := numM_lt st 1
  have hlt := h.lt
  obtain ⟨⟨n, st1⟩, hr⟩ : ∃ r, numM st 1 = r := ⟨_, rfl⟩
  have E : Hid (memM st = if n ≤ 16 then (if st1.isSome then memN n st1 else ([], none)) else ([], none)) := Lib.hid (by unfold memM; rw [hr])
  rw [hr] at N hn
  dsimp only at N hn
  clear hr h
  go_enter Try.func43, Try.ntmps43
  go_wp2_with fail
  refine N.out.mono ?_
  rintro e w1 ⟨rfl, ht, hk⟩
  have hl1 := ht.lt
  have HT1 := Lib.hid ht
  have HK1 := Lib.hid hk
  clear ht hk N
  obtain ⟨b, hb⟩ : ∃ b, decide ((n : Int) ≤ 16) = b := ⟨_, rfl⟩
  have M := Lib.hid (must_any w1 t T st1 b HT1.out)
  have HBn : Hid (decide (n ≤ 16) = b) := Lib.hid (by rw [← hb]; congr 1; exact propext ⟨fun h => by omega, fun h => by omega⟩)
  go_wp2_with fail
  refine M.out.mono ?_
  rintro e w2 ⟨rfl, ht, hk⟩
  have HT2 := Lib.hid ht
  have HK2 := Lib.hid (HK1.out.trans hk)
  clear ht hk M HT1 HK1 hb hl1
  cases b
  · go_wp2_with fail
    go_ret
    refine ⟨_, rfl, ?_⟩
    rw [E.out, if_neg (of_decide_eq_false HBn.out)]
    exact ⟨⟨World.ownsRow_nil _ _ _ _⟩, HT2.out, HK2.out⟩
  cases st1 with
  | none =>
    go_wp2_with fail
    go_ret
    refine ⟨_, rfl, ?_⟩
    rw [E.out, if_pos (of_decide_eq_true HBn.out)]
    exact ⟨⟨World.ownsRow_nil _ _ _ _⟩, HT2.out, HK2.out⟩
  | some s1 =>
    simp only [Bool.true_and, Option.isSome_some]
    have hn16 : n ≤ 16 := of_decide_eq_true HBn.out
    have HE : Hid (memM st = memN n (some s1)) := Lib.hid (by rw [E.out, if_pos hn16]; rfl)
    have HT2' : Hid (Tape w2 t T (some s1)) := Lib.hid HT2.out
    clear E HBn HT2
    go_wp2_with fail
    go_loopw [4, 15] (fun v i wr => ∃ k : Nat, k ≤ n ∧ i = .int .i64 k ∧ Hid (MemRel w t T v (memN k (some s1)).1 (memN k (some s1)).2 wr)) (fun _ i _ => n - (intOf i).toNat)
    case atStart => exact ⟨0, by omega, rfl, Lib.hid ⟨⟨World.ownsRow_nil _ _ _ _⟩, HT2'.out, HK2.out⟩⟩
    case round =>
      clear HT2' HK2
      obtain ⟨k, hk, rfl, HR⟩ := hrel
      by_cases hlt' : k < n
      · have hlk := memN_length k (some s1)
        have hstep : memN (k + 1) (some s1) = ((memN k (some s1)).1 ++ [(inPlainM (numM (memN k (some s1)).2 1).2 (numM (memN k (some s1)).2 1).1).1], (inPlainM (numM (memN k (some s1)).2 1).2 (numM (memN k (some s1)).2 1).1).2) := rfl
        have HST := Lib.hid hstep
        obtain ⟨⟨lk, sk⟩, hmk⟩ : ∃ r, memN k (some s1) = r := ⟨_, rfl⟩
        rw [hmk] at HR HST hlk
        dsimp only at HR HST hlk
        clear hstep hmk
        have U := Lib.hid (inU8_any wr t T sk HR.out.tape)
        have hq := numM_lt sk 1
        obtain ⟨⟨q, sq⟩, hqe⟩ : ∃ r, numM sk 1 = r := ⟨_, rfl⟩
        rw [hqe] at U HST hq
        dsimp only at U HST hq
        clear hqe
        go_wp2_with fail
        refine U.out.mono ?_
        rintro e w3 ⟨rfl, ht, hk3⟩
        have HT3 := Lib.hid ht
        have HK3 := Lib.hid (HR.out.kept.trans hk3)
        have HO3 := Lib.hid (own_kept HR.out.own hk3 hlt)
        clear ht hk3 U HR
        have P := Lib.hid (inPlain_any w3 t T sq q HT3.out)
        obtain ⟨⟨x, sx⟩, hxe⟩ : ∃ r, inPlainM sq q = r := ⟨_, rfl⟩
        rw [hxe] at P HST
        dsimp only at P HST
        clear hxe
        go_wp2_with fail
        refine P.out.mono ?_
        rintro e w4 ⟨rfl, ht, hk4⟩
        have HT4 := Lib.hid ht
        have HK4 := Lib.hid (HK3.out.trans hk4)
        have HO4 := Lib.hid (own_kept HO3.out hk4 hlt)
        have hw4 : w.heap.size ≤ w4.heap.size := (HK3.out.trans hk4).size
        clear ht hk4 P HT3 HK3 HO3
        unfold Val.v V
        go_wp2_with (at_builtin; refine append_vals rfl (.tmp 17) (.tmp 22) rfl w.heap.size lk [x] _ rfl ⟨own_on4 HO4.out.row fun g _ hg => Below.heap_alloc _ _ _ hg⟩ _ rfl (src_one (heap_alloc_new _ _)) (by simp; omega) (by simp; omega) (lk ++ [x]) rfl ?_)
        intro v5 w5 hown hb5
        have hbb : Below w.heap.size w4 w5 := ((Below.refl _ _).alloc hw4 _).trans hb5
        have HR5 : Hid (MemRel w t T v5 (lk ++ [x]) sx w5) := Lib.hid ⟨hown, HT4.out.on (hbb.block _ hlt), kept_own HK4.out hbb⟩
        clear hown hb5 hbb HT4 HK4 HO4
        go_wp2_with fail
        go_roundw
        case rel => exact ⟨k + 1, by omega, by go_num, Lib.hid (by rw [HST.out]; exact HR5.out)⟩
        case measure => simp [intOf]; omega
      · obtain rfl : k = n := by omega
        go_wp2_with fail
        go_ret
        exact ⟨_, rfl, by rw [HE.out]; exact HR.out⟩

/-- a value is read: of which kind, and its list -/
def rawV (st : Option ByteArray) : (Val × List Val) × Option ByteArray :=
  if (numM st 1).1 = 5 then (((inPlainM (numM st 1).2 (numM st 1).1).1, (memM (inPlainM (numM st 1).2 (numM st 1).1).2).1), (memM (inPlainM (numM st 1).2 (numM st 1).1).2).2)
  else (((inPlainM (numM st 1).2 (numM st 1).1).1, []), (inPlainM (numM st 1).2 (numM st 1).1).2)
theorem memM_length (st : Option ByteArray) : (memM st).1.length ≤ 16 := by
  unfold memM
  split
  · split
    · rw [memN_length]; assumption
    · exact Nat.zero_le _
  · exact Nat.zero_le _
theorem memM_small (st : Option ByteArray) : ∀ x ∈ (memM st).1, x.s.size ≤ maxLen := by
  unfold memM
  split
  · split
    · exact memN_small _ _
    · intro x hx; cases hx
  · intro x hx; cases hx
/-- whether a value was read that is formed, and the tape behind it -/
def readF (st : Option ByteArray) : Bool :=
  (⟨(rawV st).1.1.k, (rawV st).1.1.i, (rawV st).1.1.s, none, (rawV st).1.2.length, 0⟩ : Val).formed (rawV st).1.2
def readS (st : Option ByteArray) : Option ByteArray := if readF st then (rawV st).2 else none
end Go.Proofs.Ytebadbnlihbecaa
