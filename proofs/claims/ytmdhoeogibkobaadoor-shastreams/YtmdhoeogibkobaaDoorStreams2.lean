/- The same law, where it looks. -/
import Derived.Test.YtmdhoeogibkobaaDoorStreams
namespace Go.Proofs.YtmdhoeogibkobaaDoor
open Go.RowKit

/-- one part is written, and laid behind all so far: what the stream and the owned bytes are then -/
theorem wrote {w1 wr W w4 : World} {L : List UInt8} {v : Value} {o : Obj} {l : List UInt8} (h : StrRel w1 L v wr) (hW : W = wr.alloc o) (hh : Holds w4 w1.heap.size 57 l) (hk : Kept1 w1.heap.size W w4) :
    Holds w4 w1.heap.size 57 l ∧ w4.ownsRow (w1.heap.size + 1) 5 1 v L.length (L.map B) ∧ Below w1.heap.size w1 w4 ∧ w1.heap.size + 1 ≤ w4.heap.size := by
  subst hW
  have hbW : Below wr.heap.size wr (wr.alloc o) := (Below.refl _ _).alloc (Nat.le_refl _) _
  have h' := h.on hbW
  refine ⟨hh, own_on h'.own fun g hg hlt => hk.block g hlt (by omega), Kept1.mono h'.below hk (Nat.le_refl _), Nat.le_trans h'.size hk.size⟩
set_option maxRecDepth 100000 in
set_option maxHeartbeats 4000000 in
theorem streams_short (w : World) (ps : List Part) (ap : Option Addr) (gp op cp : Nat) (oth : Part) (hc : Came w ap gp op ps) (hoi : oth.In w) (hon : oth.ad = none → oth.cap = 0) (ht : Tab w) (hf : strF ps oth = true) :
    Calls Tryd.prog 4 #[.slice ap ps.length cp, oth.val] w fun e w' => e = .returned (.bool true) ∧ Below w.heap.size w w' := by
  have h0 := ht.size
  have HT := Lib.hid ht
  unfold strF at hf
  rw [Bool.and_eq_true, Bool.and_eq_true, Bool.and_eq_true] at hf
  have h40 : ps.length ≤ 40 := of_decide_eq_true hf.2.1
  have h200 : oth.l.length ≤ 200 := of_decide_eq_true hf.2.2
  have F : Hid (∀ W, Below w.heap.size w W → Calls Tryd.prog 9 #[.slice ap ps.length cp, .int .i64 500] W fun e w' => e = .returned (.bool true) ∧ W = w') := Lib.hid (by
    intro W hW
    have h := few_any W ps ap gp op cp 500 (hc.parts.below hW) hc.most hc.each
    rw [hf.1.1, hf.1.2] at h; exact h)
  have hs : fewS ps ≤ 500 := by have := of_decide_eq_true hf.1.2; rw [List.take_of_length_le (by omega)] at this; omega
  have hj : (joined ps).length ≤ 500 := by rw [fewS_joined ps (by omega)]; exact hs
  have HC := Lib.hid hc
  have HOI := Lib.hid hoi
  have HON := Lib.hid hon
  have HLj := Lib.hid hj
  clear hc hoi hon ht hf hs hj
  unfold Part.val
  go_enter Tryd.func4, Tryd.ntmps4
  go_wp2_with fail
  refine (awake_any w HT.out).mono ?_
  rintro e w1 ⟨rfl, hb1⟩
  have hs1 := hb1.size
  have HB1 := Lib.hid hb1
  clear hb1
  go_wp2_with fail
  refine (F.out _ HB1.out).mono ?_
  rintro e w' ⟨rfl, rfl⟩
  go_wp2_with fail
  refine (new_any w1).mono ?_
  rintro e w2 ⟨rfl, hh2, hb2, hz2⟩
  have R0 : StrRel w1 (joined (ps.take 0)) (.slice none 0 0) w2 := ⟨hh2, World.ownsRow_nil _ _ _ _, hb2, by omega⟩
  have HR0 := Lib.hid R0
  clear hh2 hb2 hz2 R0 F
  go_wp2_with fail
  go_loopw [6, 7] (fun v i wr => ∃ k : Nat, k ≤ ps.length ∧ i = .int .i64 k ∧ Hid (StrRel w1 (joined (ps.take k)) v wr)) (fun _ i _ => ps.length - (intOf i).toNat)
  case atStart => exact ⟨0, by omega, rfl, HR0⟩
  case round =>
    clear HR0
    obtain ⟨k, hk, rfl, HR⟩ := hrel
    have hLk := length_joined_take ps k
    by_cases hlt : k < ps.length
    · obtain rfl := HC.out.parts.at' (by intro e; subst e; simp at hlt)
      have hlk1 := length_joined_take ps (k + 1)
      have hsn := joined_snoc ps k hlt
      have HBw := Lib.hid (HB1.out.trans (HR.out.below.mono hs1))
      have hclA := fun W (hW : Below w.heap.size w W) => (HC.out.parts.below hW).cell k hlt
      have hpin := HC.out.parts.parts ps[k] (List.getElem_mem _)
      have hpn := HC.out.nil ps[k] (List.getElem_mem _)
      generalize ps[k] = p at *
      unfold Part.val at hclA
      have hcl := hclA _ HBw.out
      have HCA := Lib.hid hclA
      clear hclA
      have HSN := Lib.hid hsn
      have HPI := Lib.hid hpin
      have HPN := Lib.hid hpn
      have hgz : gp < wr.heap.size := block_lt_of_cell hcl
      have hlen : (joined (ps.take k)).length + p.l.length ≤ 500 := by rw [hsn] at hlk1; simp at hlk1; have := HLj.out; omega
      have HW : Hid (∀ W : World, Below wr.heap.size wr W → W.heap[wr.heap.size]? = some (.cells #[.slice p.ad p.l.length p.cap] 29 (0, 0)) →
          Calls Tryd.prog 14 #[.pointer (some ⟨w1.heap.size, 0, none⟩), .slice (some ⟨wr.heap.size, 0, none⟩) 1 1] W fun e w' => e = .returned (.tuple #[]) ∧ Holds w' w1.heap.size 57 (joined (ps.take (k + 1))) ∧ Kept1 w1.heap.size W w') := Lib.hid (by
        intro W hW hG
        have hBW : Below w.heap.size w W := HBw.out.trans (hW.mono HBw.out.size)
        have hgl := HPI.out.lt
        have hrs := HR.out.size
        have hpl : joined [p] = p.l := by simp [joined]
        have hc := write_here W w1.heap.size wr.heap.size 1 (joined (ps.take k)) [p] rfl (by simpa [Part.val] using hG) (by omega) (by
          intro r hr
          rw [List.mem_singleton.1 hr]
          exact (HPI.out.below hBW).ok (by omega)) (HR.out.holds.below hW) (HT.out.below hBW h0) (by omega) (by rw [hpl]; omega) (by simp)
        rw [hpl, ← HSN.out] at hc
        exact hc)
      clear hsn hpin hpn hlk1
      go_wp2_with fail
      refine (HW.out _ ((Below.refl _ _).alloc (Nat.le_refl _) _) (heap_alloc_new _ _)).mono ?_
      rintro e w4 ⟨rfl, hh4, hk4⟩
      obtain ⟨hh4', hown4, hb4, hz4⟩ := wrote HR.out rfl hh4 hk4
      have HBw4 := Lib.hid (HB1.out.trans (hb4.mono hs1))
      have hcl4 := HCA.out _ HBw4.out
      have hgz4 : gp < w1.heap.size := Nat.lt_of_lt_of_le HC.out.parts.lt hs1
      have HH4 := Lib.hid hh4'
      have HO4 := Lib.hid hown4
      have HB4 := Lib.hid hb4
      clear hh4 hk4 hh4' hown4 hb4 HW hcl
      have hPI4 := HPI.out.below HBw4.out
      have HPI4 := Lib.hid hPI4
      clear hPI4
      go_wp2_with (at_builtin; refine wpList_append_part rfl (.tmp 42) (.tmp 46) rfl (w1.heap.size + 1) _ _ (joined (ps.take k)) rfl HO4.out p HPI4.out HPN.out rfl (by omega) hz4 ?_)
      intro v' w5 hown5 hb5
      obtain ⟨M, hM⟩ : ∃ M, joined (ps.take (k + 1)) = M := ⟨_, rfl⟩
      rw [← List.map_append, ← HSN.out, hM, show (joined (ps.take k)).length + p.l.length = M.length by rw [← hM, HSN.out]; simp] at hown5
      have hM500 : M.length ≤ 500 := by rw [← hM, HSN.out]; simp; omega
      have hh5 := HH4.out.low hb5 (by omega)
      rw [hM] at hh5
      have hb15 : Below w1.heap.size w1 w5 := HB4.out.trans (hb5.mono (by omega))
      have hz5 : w1.heap.size + 1 ≤ w5.heap.size := Nat.le_trans hz4 hb5.size
      obtain ⟨q, rfl, hqin, hql, _, _, _⟩ := part_of_own hown5 (by omega)
      have R5 : StrRel w1 M q.val w5 := ⟨hh5, hown5, hb15, hz5⟩
      have hbw5 : Below w.heap.size w w5 := HB1.out.trans (hb15.mono hs1)
      have HSz : Hid (Calls Tryd.prog 15 #[.pointer (some ⟨w1.heap.size, 0, none⟩)] w5 fun e w' => e = .returned (.int .u64 (M.length : Int)) ∧ w5 = w') := Lib.hid (size_any w5 _ M hh5)
      have HSu : Hid (Calls Tryd.prog 16 #[.pointer (some ⟨w1.heap.size, 0, none⟩)] w5 fun e w' => e = .returned (H M) ∧ Below w5.heap.size w5 w') := Lib.hid (sum_any w5 _ M hh5 (HT.out.below hbw5 h0) (by omega))
      have HRs : Hid (∀ W, Below w5.heap.size w5 W → Calls Tryd.prog 11 #[.slice q.ad M.length q.cap] W fun e w' => e = .returned (H M) ∧ Below W.heap.size W w') := Lib.hid (by
        intro W hW
        have h := refsum_any W q (hqin.below hW) (by rw [hql]; omega)
        unfold Part.val at h
        rw [hql] at h; exact h)
      unfold Part.val at R5 ⊢
      rw [hql] at R5 ⊢
      have HR5 := Lib.hid R5
      have HM := Lib.hid hM
      have hne := neqH M M
      rw [show (!(shaOf M == shaOf M)) = false by simp] at hne
      have hgu := fun x y => guardN M M x y
      clear hown5 hb5 hM hh5 hb15 hqin hql R5 hbw5 HO4 HH4 HB4 HPI4 hcl4
      go_wp2_with fail
      refine HSz.out.mono ?_
      rintro e w' ⟨rfl, rfl⟩
      go_wp2_with fail
      refine HSu.out.mono ?_
      rintro e w6 ⟨rfl, hb6⟩
      have HB6 := Lib.hid hb6
      clear hb6
      go_wp2_with fail
      refine (HRs.out _ HB6.out).mono ?_
      rintro e w7 ⟨rfl, hb7⟩
      have HB7 := Lib.hid (HB6.out.trans (hb7.mono HB6.out.size))
      clear hb7 HB6 HSz HSu HRs
      go_wp2_with fail
      clear hne hgu
      go_roundw
      case rel => exact ⟨k + 1, by omega, by go_num, Lib.hid (by rw [HM.out]; exact HR5.out.on HB7.out)⟩
      case measure => simp [intOf]; omega
    · obtain rfl : k = ps.length := by omega
      obtain ⟨L, hLe⟩ : ∃ L, joined (ps.take ps.length) = L := ⟨_, rfl⟩
      have hL500 : L.length ≤ 500 := by rw [← hLe, List.take_length]; exact HLj.out
      rw [hLe] at HR
      have hrs := HR.out.size
      obtain ⟨⟨qa, qg, qo, qc, ql⟩, rfl, hqin, hql, hqn, _, hqg⟩ := part_of_own HR.out.own (by omega)
      obtain rfl : ql = L := hql
      have HQI := Lib.hid hqin
      have HQN := Lib.hid hqn
      have HBw := Lib.hid (HB1.out.trans (HR.out.below.mono hs1))
      have HCl := Lib.hid (clone_any wr w1.heap.size ql HR.out.holds)
      clear hqin hqn hqg hLk hLe
      unfold Part.val
      dsimp only
      go_wp2_with fail
      refine HCl.out.mono ?_
      rintro e w3 ⟨rfl, hh3, hb3, hz3⟩
      have HW : Hid (∀ W : World, Below w3.heap.size w3 W → W.heap[w3.heap.size]? = some (.cells #[.slice oth.ad oth.l.length oth.cap, .slice oth.ad oth.l.length oth.cap] 29 (0, 0)) →
          Calls Tryd.prog 14 #[.pointer (some ⟨wr.heap.size, 0, none⟩), .slice (some ⟨w3.heap.size, 0, none⟩) 2 2] W fun e w' => e = .returned (.tuple #[]) ∧ Holds w' wr.heap.size 57 (ql ++ (oth.l ++ oth.l)) ∧ Kept1 wr.heap.size W w') := Lib.hid (by
        intro W hW hG
        have hBW3 : Below w.heap.size w w3 := HBw.out.trans (hb3.mono HBw.out.size)
        have hBW : Below w.heap.size w W := hBW3.trans (hW.mono hBW3.size)
        have hgl := HOI.out.lt
        have hbs := HBw.out.size
        have hpl : joined [oth, oth] = oth.l ++ oth.l := by simp [joined]
        have hc := write_here W wr.heap.size w3.heap.size 2 ql [oth, oth] rfl (by simpa [Part.val] using hG) (by omega) (by
          intro r hr
          have hr' : r = oth := by simpa using hr
          rw [hr']
          exact (HOI.out.below hBW).ok (by omega)) (hh3.below hW) (HT.out.below hBW h0) (by omega) (by rw [hpl]; simp; omega) (by simp)
        rw [hpl] at hc
        exact hc)
      have HB3 := Lib.hid hb3
      have HZ3 := Lib.hid hz3
      clear hh3 hb3 hz3 HCl
      go_wp2_with fail
      refine (HW.out _ ((Below.refl _ _).alloc (Nat.le_refl _) _) (heap_alloc_new _ _)).mono ?_
      rintro e w4 ⟨rfl, hh4, hk4⟩
      have hbA : Below wr.heap.size wr (w3.alloc (.cells #[.slice oth.ad oth.l.length oth.cap, .slice oth.ad oth.l.length oth.cap] 29)) := HB3.out.alloc HB3.out.size _
      have hb4 : Below wr.heap.size wr w4 := Kept1.mono hbA hk4 (Nat.le_refl _)
      have hs4 : wr.heap.size < w4.heap.size := hh4.lt
      have hbw4 : Below w.heap.size w w4 := HBw.out.trans (hb4.mono HBw.out.size)
      have hhs4 : Holds w4 w1.heap.size 57 ql := HR.out.holds.below hb4
      have hq4 := HQI.out.below hb4
      have own0 : (w4.alloc (.cells #[] 5)).ownsRow w4.heap.size 5 1 (.slice (some ⟨w4.heap.size, 0, none⟩) 0 0) 0 (([] : List UInt8).map B) :=
        ⟨rfl, .inr ⟨w4.heap.size, 0, #[], rfl, Nat.le_refl _, heap_alloc_new _ _, Nat.le_refl _, by unfold maxLen; omega, rfl, rfl⟩⟩
      have bB : Below w4.heap.size w4 (w4.alloc (.cells #[] 5)) := (Below.refl _ _).alloc (Nat.le_refl _) _
      have HO0 := Lib.hid own0
      have HBB := Lib.hid bB
      have HH4 := Lib.hid hh4
      have HHS4 := Lib.hid hhs4
      have HQ4 := Lib.hid hq4
      have HBW4 := Lib.hid hbw4
      have HQA := Lib.hid (hq4.below bB)
      clear hk4 hbA hb4 hbw4 hhs4 hq4 own0 bB hh4 HW HB3 HZ3
      go_wp2_with (at_builtin; refine wpList_append_part rfl (.tmp 70) (.tmp 71) rfl w4.heap.size _ 0 [] rfl HO0.out ⟨qa, qg, qo, qc, ql⟩ HQA.out HQN.out rfl (by show 0 + ql.length ≤ _; omega) (by simp only [World.size_alloc]; omega) ?_)
      intro v5 w5 hown5 hb5
      have hB5 : Below w4.heap.size w4 w5 := HBB.out.trans hb5
      have hown5' : w5.ownsRow w4.heap.size 5 1 v5 ql.length (ql.map B) := by simpa using hown5
      have hs5 := hB5.size
      have HO5 := Lib.hid hown5'
      have HB5 := Lib.hid hB5
      have hOI5 := HOI.out.below (HBW4.out.trans (hB5.mono HBW4.out.size))
      have HOI5 := Lib.hid hOI5
      clear hown5 hown5' hb5 hB5 hOI5 HO0 HBB HQA
      go_wp2_with (at_builtin; refine wpList_append_part rfl (.tmp 72) (.tmp 73) rfl w4.heap.size _ _ ql rfl HO5.out oth HOI5.out HON.out rfl (by omega) hs5 ?_)
      intro v6 w6 hown6 hb6
      rw [← List.map_append, show ql.length + oth.l.length = (ql ++ oth.l).length by simp] at hown6
      have hB6 : Below w4.heap.size w4 w6 := HB5.out.trans hb6
      have hs6 := hB6.size
      have HO6 := Lib.hid hown6
      have HB6 := Lib.hid hB6
      have hOI6 := HOI.out.below (HBW4.out.trans (hB6.mono HBW4.out.size))
      have HOI6 := Lib.hid hOI6
      clear hown6 hb6 hB6 hOI6 HO5 HB5 HOI5 hs5
      have hl6 : (ql ++ oth.l).length ≤ 700 := by simp; omega
      go_wp2_with (at_builtin; refine wpList_append_part rfl (.tmp 74) (.tmp 75) rfl w4.heap.size _ _ (ql ++ oth.l) rfl HO6.out oth HOI6.out HON.out rfl (by omega) hs6 ?_)
      intro v7 w7 hown7 hb7
      obtain ⟨M, hM⟩ : ∃ M, ql ++ (oth.l ++ oth.l) = M := ⟨_, rfl⟩
      have hown7' : w7.ownsRow w4.heap.size 5 1 v7 M.length (M.map B) := by
        subst hM
        simpa [Nat.add_assoc] using hown7
      have hM900 : M.length ≤ 900 := by rw [← hM]; simp; omega
      have hB7 : Below w4.heap.size w4 w7 := HB6.out.trans hb7
      have hs7 := hB7.size
      obtain ⟨r, rfl, hrin, hrl, _, _, _⟩ := part_of_own hown7' (by omega)
      have hW7 : ∀ W, Below w7.heap.size w7 W → Below w4.heap.size w4 W := fun W hW => hB7.trans (hW.mono hs7)
      have hw7 : ∀ W, Below w7.heap.size w7 W → Below w.heap.size w W := fun W hW => HBW4.out.trans ((hW7 W hW).mono HBW4.out.size)
      have HCu : Hid (∀ W, Below w7.heap.size w7 W → Calls Tryd.prog 16 #[.pointer (some ⟨wr.heap.size, 0, none⟩)] W fun e w' => e = .returned (H M) ∧ Below W.heap.size W w') := Lib.hid (by
        intro W hW
        have h := HH4.out.below (hW7 W hW)
        rw [hM] at h
        exact sum_any W _ M h (HT.out.below (hw7 W hW) h0) (by omega))
      have HCs : Hid (∀ W, Below w7.heap.size w7 W → Calls Tryd.prog 15 #[.pointer (some ⟨wr.heap.size, 0, none⟩)] W fun e w' => e = .returned (.int .u64 (M.length : Int)) ∧ W = w') := Lib.hid (by
        intro W hW
        have h := HH4.out.below (hW7 W hW)
        rw [hM] at h
        exact size_any W _ M h)
      have HSu : Hid (∀ W, Below w7.heap.size w7 W → Calls Tryd.prog 16 #[.pointer (some ⟨w1.heap.size, 0, none⟩)] W fun e w' => e = .returned (H ql) ∧ Below W.heap.size W w') := Lib.hid (by
        intro W hW
        exact sum_any W _ ql (HHS4.out.below (hW7 W hW)) (HT.out.below (hw7 W hW) h0) (by omega))
      have HRq : Hid (∀ W, Below w7.heap.size w7 W → Calls Tryd.prog 11 #[.slice qa ql.length qc] W fun e w' => e = .returned (H ql) ∧ Below W.heap.size W w') := Lib.hid (by
        intro W hW
        have h := refsum_any W ⟨qa, qg, qo, qc, ql⟩ (HQ4.out.below (hW7 W hW)) (by show ql.length ≤ _; omega)
        exact h)
      have HRr : Hid (∀ W, Below w7.heap.size w7 W → Calls Tryd.prog 11 #[.slice r.ad M.length r.cap] W fun e w' => e = .returned (H M) ∧ Below W.heap.size W w') := Lib.hid (by
        intro W hW
        have h := refsum_any W r (hrin.below hW) (by rw [hrl]; omega)
        unfold Part.val at h
        rw [hrl] at h; exact h)
      unfold Part.val
      rw [hrl]
      have HW7 := Lib.hid (fun W hW => hw7 W hW)
      clear hown7 hown7' hb7 hM hB7 hrin hrl hW7 hw7 HO6 HB6 HOI6 hs6 hs7 hl6
      have heM := eqlH M M
      rw [show (shaOf M == shaOf M) = true by simp] at heM
      have hgM := fun x y => guardH M M x y
      have heq := eqlH ql ql
      rw [show (shaOf ql == shaOf ql) = true by simp] at heq
      have hgq := fun x y => guardH ql ql x y
      go_wp2_with fail
      refine (HCu.out _ (Below.refl _ _)).mono ?_
      rintro e w8 ⟨rfl, hb8⟩
      have HB8 := Lib.hid hb8
      clear hb8 HCu
      go_wp2_with fail
      refine (HRr.out _ HB8.out).mono ?_
      rintro e w9 ⟨rfl, hb9⟩
      have HB9 := Lib.hid (HB8.out.trans (hb9.mono HB8.out.size))
      clear hb9 HB8 HRr
      go_wp2_with fail
      refine (HSu.out _ HB9.out).mono ?_
      rintro e w10 ⟨rfl, hb10⟩
      have HB10 := Lib.hid (HB9.out.trans (hb10.mono HB9.out.size))
      clear hb10 HB9 HSu
      go_wp2_with fail
      refine (HRq.out _ HB10.out).mono ?_
      rintro e w11 ⟨rfl, hb11⟩
      have HB11 := Lib.hid (HB10.out.trans (hb11.mono HB10.out.size))
      clear hb11 HB10 HRq
      go_wp2_with fail
      refine (HCs.out _ HB11.out).mono ?_
      rintro e w' ⟨rfl, rfl⟩
      go_wp2_with fail
      go_ret
      exact ⟨rfl, HW7.out _ HB11.out⟩
end Go.Proofs.YtmdhoeogibkobaaDoor
