/- P5.2, P5.3: of two lists with one head, either they are the same, or two texts are told: the walk of the law. -/
import Derived.Test.YtmegncaadglhmaaDoorKClash
namespace Go.Proofs.YtmegncaadglhmaaDoor
open Go.RowKit

set_option maxRecDepth 100000 in
set_option maxHeartbeats 1000000 in
theorem clash_any (w : World) (ps qs : List Part) (ap aq : Option Addr) (gp op cp gq oq cq : Nat) (hp : PartsIn w ap gp op ps) (hq : PartsIn w aq gq oq qs) (ht : Tab w) (hl : ∀ p ∈ ps, p.l.length ≤ 1000) (hl' : ∀ p ∈ qs, p.l.length ≤ 1000) (hn : ∀ p ∈ ps, p.ad = none → p.cap = 0) (hn' : ∀ p ∈ qs, p.ad = none → p.cap = 0) (hm : ps.length ≤ 100) :
    Calls Tryd.prog 25 #[.slice ap ps.length cp, .slice aq qs.length cq, .func (.func 21) #[] #[]] w fun e w' => ClashPost ps qs e w' ∧ Below w.heap.size w w' := by
  by_cases hlen : ps.length = qs.length
  · rw [← hlen]; exact clash_same w ps qs ap aq gp op cp gq oq cq hp hq ht hl hl' hn hn' hm hlen
  · have hd : ((ps.length : Int) != (qs.length : Int)) = true := by simp; omega
    have HL := Lib.hid hlen
    clear hp hq ht hl hl' hn hn' hlen
    go_enter Tryd.func25, Tryd.ntmps25
    go_wp2_with fail
    exact bodyPost_ret (v := .tuple #[.slice none 0 0, .slice none 0 0, .bool false]) (by simp [results, Tryd.results25, go_sem]) rfl ⟨.none (.inr (.inl HL.out)) rfl, Below.refl _ _⟩
set_option maxRecDepth 100000 in
set_option maxHeartbeats 1000000 in
theorem Clash_any (w : World) (ps qs : List Part) (ap aq : Option Addr) (gp op cp gq oq cq : Nat) (hp : PartsIn w ap gp op ps) (hq : PartsIn w aq gq oq qs) (ht : Tab w) (hl : ∀ p ∈ ps, p.l.length ≤ 1000) (hl' : ∀ p ∈ qs, p.l.length ≤ 1000) (hn : ∀ p ∈ ps, p.ad = none → p.cap = 0) (hn' : ∀ p ∈ qs, p.ad = none → p.cap = 0) (hm : ps.length ≤ 100) :
    Calls Tryd.prog 18 #[.slice ap ps.length cp, .slice aq qs.length cq] w fun e w' => ClashPost ps qs e w' ∧ Below w.heap.size w w' := by
  have HC := Lib.hid (clash_any w ps qs ap aq gp op cp gq oq cq hp hq ht hl hl' hn hn' hm)
  clear hp hq ht hl hl' hn hn' hm
  go_enter Tryd.func18, Tryd.ntmps18
  go_wp2_with fail
  refine HC.out.mono ?_
  rintro e w1 ⟨hpost, hb1⟩
  have HB := Lib.hid hb1
  clear hb1
  cases hpost with
  | none h he =>
    subst he
    have H := Lib.hid h
    clear h
    go_wp2_with fail
    exact bodyPost_ret (v := .tuple #[.slice none 0 0, .slice none 0 0, .bool false]) (by simp [results, Tryd.results18, go_sem]) rfl ⟨.none H.out rfl, HB.out⟩
  | some h h1 h2 x y he hx hy hne hs hxl hyl =>
    subst he
    have HP := Lib.hid (And.intro h (And.intro h1 (And.intro h2 (And.intro hx (And.intro hy (And.intro hne (And.intro hs (And.intro hxl hyl))))))))
    clear h h1 h2 hx hy hne hs hxl hyl
    go_wp2_with fail
    obtain ⟨h, h1, h2, hx, hy, hne, hs, hxl, hyl⟩ := HP.out
    exact bodyPost_ret (v := .tuple #[.slice x.ad x.l.length x.cap, .slice y.ad y.l.length y.cap, .bool true]) (by simp [results, Tryd.results18, go_sem]) rfl ⟨.some h h1 h2 x y rfl hx hy hne hs hxl hyl, HB.out⟩

set_option maxRecDepth 100000 in
set_option maxHeartbeats 1000000 in
theorem clashes_long (w : World) (ht : Tab w) (ps qs : List Part) (ap aq : Option Addr) (gp op cp gq oq cq : Nat) (hc : Came w ap gp op ps) (hc' : Came w aq gq oq qs)
    (hf : (decide ((ps.length : Int) ≤ (12 : Nat)) && decide ((fewS (ps.take 200) : Int) ≤ 400)) = false ∨ (decide ((qs.length : Int) ≤ (12 : Nat)) && decide ((fewS (qs.take 200) : Int) ≤ 400)) = false) :
    Calls Tryd.prog 7 #[.slice ap ps.length cp, .slice aq qs.length cq] w fun e w' => e = .returned (.bool true) ∧ Below w.heap.size w w' := by
  have h0 := ht.size
  have HT := Lib.hid ht
  obtain ⟨fa, hfa⟩ : ∃ fa, (decide ((ps.length : Int) ≤ (12 : Nat)) && decide ((fewS (ps.take 200) : Int) ≤ 400)) = fa := ⟨_, rfl⟩
  obtain ⟨fb, hfb⟩ : ∃ fb, (decide ((qs.length : Int) ≤ (12 : Nat)) && decide ((fewS (qs.take 200) : Int) ≤ 400)) = fb := ⟨_, rfl⟩
  have FA : Hid (∀ W, Below w.heap.size w W → Calls Tryd.prog 9 #[.slice ap ps.length cp, .int .i64 12, .int .i64 400] W fun e w' => e = .returned (.bool fa) ∧ W = w') := Lib.hid (by
    intro W hW; rw [← hfa]; exact few_any W ps ap gp op cp 12 (by omega) 400 (hc.parts.below hW) hc.most hc.each)
  have FB : Hid (∀ W, Below w.heap.size w W → Calls Tryd.prog 9 #[.slice aq qs.length cq, .int .i64 12, .int .i64 400] W fun e w' => e = .returned (.bool fb) ∧ W = w') := Lib.hid (by
    intro W hW; rw [← hfb]; exact few_any W qs aq gq oq cq 12 (by omega) 400 (hc'.parts.below hW) hc'.most hc'.each)
  rw [hfa, hfb] at hf
  clear hc hc' ht hfa hfb
  go_enter Tryd.func7, Tryd.ntmps7
  go_wp2_with fail
  refine (awake_any w HT.out).mono ?_
  rintro e w1 ⟨rfl, hb1⟩
  have HB1 := Lib.hid hb1
  clear hb1
  go_wp2_with fail
  refine (FA.out _ HB1.out).mono ?_
  rintro e w' ⟨rfl, rfl⟩
  cases fa
  · go_wp2_with fail
    refine (awake_any w1 (HT.out.below HB1.out h0)).mono ?_
    rintro e w2 ⟨rfl, hb2⟩
    have HB2 := Lib.hid (HB1.out.trans (hb2.mono HB1.out.size))
    clear hb2
    go_wp2_with fail
    go_ret
    exact ⟨rfl, HB2.out⟩
  · obtain rfl : fb = false := by simpa using hf
    clear hf
    go_wp2_with fail
    refine (FB.out _ HB1.out).mono ?_
    rintro e w' ⟨rfl, rfl⟩
    go_wp2_with fail
    refine (awake_any w1 (HT.out.below HB1.out h0)).mono ?_
    rintro e w2 ⟨rfl, hb2⟩
    have HB2 := Lib.hid (HB1.out.trans (hb2.mono HB1.out.size))
    clear hb2
    go_wp2_with fail
    go_ret
    exact ⟨rfl, HB2.out⟩

set_option maxRecDepth 100000 in
set_option maxHeartbeats 4000000 in
theorem clashes_short (w : World) (ht : Tab w) (ps qs : List Part) (ap aq : Option Addr) (gp op cp gq oq cq : Nat) (hc : Came w ap gp op ps) (hc' : Came w aq gq oq qs)
    (hf : (decide ((ps.length : Int) ≤ (12 : Nat)) && decide ((fewS (ps.take 200) : Int) ≤ (400 : Nat))) = true) (hf' : (decide ((qs.length : Int) ≤ (12 : Nat)) && decide ((fewS (qs.take 200) : Int) ≤ (400 : Nat))) = true) :
    Calls Tryd.prog 7 #[.slice ap ps.length cp, .slice aq qs.length cq] w fun e w' => e = .returned (.bool true) ∧ Below w.heap.size w w' := by
  have h0 := ht.size
  have HT := Lib.hid ht
  have FA : Hid (∀ W, Below w.heap.size w W → Calls Tryd.prog 9 #[.slice ap ps.length cp, .int .i64 12, .int .i64 400] W fun e w' => e = .returned (.bool true) ∧ W = w') := Lib.hid (by
    intro W hW; rw [← hf]; exact few_any W ps ap gp op cp 12 (by omega) 400 (hc.parts.below hW) hc.most hc.each)
  have FB : Hid (∀ W, Below w.heap.size w W → Calls Tryd.prog 9 #[.slice aq qs.length cq, .int .i64 12, .int .i64 400] W fun e w' => e = .returned (.bool true) ∧ W = w') := Lib.hid (by
    intro W hW; rw [← hf']; exact few_any W qs aq gq oq cq 12 (by omega) 400 (hc'.parts.below hW) hc'.most hc'.each)
  obtain ⟨hl, hle0⟩ := few_small ps 12 (by omega) 400 (by omega) hf
  obtain ⟨hl', hle0'⟩ := few_small qs 12 (by omega) 400 (by omega) hf'
  have hle : ∀ p ∈ ps, p.l.length ≤ 1000 := fun p hp => Nat.le_trans (hle0 p hp) (by omega)
  have hle' : ∀ p ∈ qs, p.l.length ≤ 1000 := fun p hp => Nat.le_trans (hle0' p hp) (by omega)
  have HCL : Hid (∀ W, Below w.heap.size w W → Calls Tryd.prog 18 #[.slice ap ps.length cp, .slice aq qs.length cq] W fun e w' => ClashPost ps qs e w' ∧ Below W.heap.size W w') := Lib.hid (by
    intro W hW; exact Clash_any W ps qs ap aq gp op cp gq oq cq (hc.parts.below hW) (hc'.parts.below hW) (HT.out.below hW h0) hle hle' hc.nil hc'.nil (by omega))
  have HHA : Hid (∀ W, Below w.heap.size w W → Calls Tryd.prog 12 #[.slice ap ps.length cp] W fun e w' => e = .returned (.agg ((folded z32 ps).map B).toArray) ∧ Below W.heap.size W w') := Lib.hid (by
    intro W hW; exact refHash_any W ps ap gp op cp (hc.parts.below hW) hc.nil (by have := hW.size; omega) hle (by omega))
  have HHB : Hid (∀ W, Below w.heap.size w W → Calls Tryd.prog 12 #[.slice aq qs.length cq] W fun e w' => e = .returned (.agg ((folded z32 qs).map B).toArray) ∧ Below W.heap.size W w') := Lib.hid (by
    intro W hW; exact refHash_any W qs aq gq oq cq (hc'.parts.below hW) hc'.nil (by have := hW.size; omega) hle' (by omega))
  have HSA : Hid (∀ W, Below w.heap.size w W → Calls Tryd.prog 15 #[.slice ap ps.length cp, .slice aq qs.length cq] W fun e w' => e = .returned (.bool (decide (txs ps = txs qs))) ∧ Below W.heap.size W w') := Lib.hid (by
    intro W hW; exact same_any W ps qs ap aq gp op cp gq oq cq (hc.parts.below hW) (hc'.parts.below hW) hc.most hc'.most)
  have heq := eqlHash 25 (Or.inr rfl) (folded z32 ps) (folded z32 qs) (length_folded z32 rfl _) (length_folded z32 rfl _)
  have hgu : ∀ (x y : Operand) (w : World), (eqGuard .eql 25 x y (.agg ((folded z32 ps).map B).toArray) (.agg ((folded z32 qs).map B).toArray)).run Tryd.prog w = .ok () w := fun x y w => run_eqGuard_agg w .eql 25 x y _ _ (by kernel_rfl)
  obtain ⟨b, hb⟩ : ∃ b, (folded z32 ps == folded z32 qs) = b := ⟨_, rfl⟩
  rw [hb] at heq
  have HBB := Lib.hid hb
  have HEQ := Lib.hid heq
  have HGU := Lib.hid hgu
  clear heq hgu hb hc hc' ht hf hf' hle hle' hle0 hle0'
  generalize (folded z32 ps).map B = AX at *
  generalize (folded z32 qs).map B = BX at *
  go_enter Tryd.func7, Tryd.ntmps7
  go_wp2_with fail
  refine (awake_any w HT.out).mono ?_
  rintro e w1 ⟨rfl, hb1⟩
  have HB1 := Lib.hid hb1
  clear hb1
  go_wp2_with fail
  refine (FA.out _ HB1.out).mono ?_
  rintro e w' ⟨rfl, rfl⟩
  go_wp2_with fail
  refine (FB.out _ HB1.out).mono ?_
  rintro e w' ⟨rfl, rfl⟩
  go_wp2_with fail
  refine (HCL.out _ HB1.out).mono ?_
  rintro e w2 ⟨hpost, hb2⟩
  have HB2 := Lib.hid (HB1.out.trans (hb2.mono HB1.out.size))
  clear hb2 FA FB HCL
  cases hpost with
  | none h he =>
    subst he
    by_cases hlen : ps.length = qs.length
    · have hd : ((ps.length : Int) == (qs.length : Int)) = true := by simp [hlen]
      have HH := Lib.hid h
      clear h
      have HLEN := Lib.hid hlen
      clear hlen
      have hsame : b = true → txs ps = txs qs := fun e => by
        rcases HH.out with h | h | h
        · exact h
        · exact absurd HLEN.out h
        · exact absurd (by have := HBB.out; rw [e] at this; simpa using this) h
      have HSM := Lib.hid hsame
      clear hsame
      go_wp2_with fail
      refine (HHA.out _ HB2.out).mono ?_
      rintro e w3 ⟨rfl, hb3⟩
      have HB3 := Lib.hid (HB2.out.trans (hb3.mono HB2.out.size))
      clear hb3
      go_wp2_with fail
      refine (HHB.out _ HB3.out).mono ?_
      rintro e w4 ⟨rfl, hb4⟩
      have HB4 := Lib.hid (HB3.out.trans (hb4.mono HB3.out.size))
      clear hb4
      have heq := HEQ.out
      have hgu := HGU.out
      cases b
      · go_wp2_with fail
        go_ret
        exact ⟨rfl, HB4.out⟩
      · have HS2 : Hid (∀ W, Below w.heap.size w W → Calls Tryd.prog 15 #[.slice ap ps.length cp, .slice aq qs.length cq] W fun e w' => e = .returned (.bool true) ∧ Below W.heap.size W w') := Lib.hid (by
          have := HSA.out
          rwa [decide_eq_true (HSM.out rfl)] at this)
        go_wp2_with fail
        refine (HS2.out _ HB4.out).mono ?_
        rintro e w5 ⟨rfl, hb5⟩
        have HB5 := Lib.hid (HB4.out.trans (hb5.mono HB4.out.size))
        clear hb5 heq hgu
        go_wp2_with fail
        go_ret
        exact ⟨rfl, HB5.out⟩
    · have hd : ((ps.length : Int) == (qs.length : Int)) = false := by simp; omega
      clear h hlen
      go_wp2_with fail
      go_ret
      exact ⟨rfl, HB2.out⟩
  | some h h1 h2 x y he hx hy hne hs hxl hyl =>
    subst he
    obtain rfl : b = true := by have := HBB.out; rw [h2] at this; simpa using this.symm
    have hd : ((ps.length : Int) == (qs.length : Int)) = true := by simp [h1]
    have HS2 : Hid (∀ W, Below w.heap.size w W → Calls Tryd.prog 15 #[.slice ap ps.length cp, .slice aq qs.length cq] W fun e w' => e = .returned (.bool false) ∧ Below W.heap.size W w') := Lib.hid (by
      have := HSA.out
      rwa [decide_eq_false h] at this)
    have HX : Hid (∀ W, Below w2.heap.size w2 W → ((convert 31 9 (.slice x.ad x.l.length x.cap)).run Tryd.prog W = .ok (.string (tx x.l)) W ∧ (convert 31 9 (.slice y.ad y.l.length y.cap)).run Tryd.prog W = .ok (.string (tx y.l)) W) ∧
        (Calls Tryd.prog 19 #[.slice x.ad x.l.length x.cap] W fun e w' => e = .returned (.agg ((shaOf x.l).map B).toArray) ∧ Below W.heap.size W w') ∧
        (Calls Tryd.prog 19 #[.slice y.ad y.l.length y.cap] W fun e w' => e = .returned (.agg ((shaOf x.l).map B).toArray) ∧ Below W.heap.size W w')) := Lib.hid fun W hW => by
      refine ⟨⟨conv_part (hx.below hW), conv_part (hy.below hW)⟩, refsum_any W x (hx.below hW) (by omega), ?_⟩
      rw [hs]
      exact refsum_any W y (hy.below hW) (by omega)
    have hst : ((tx x.l).toList == (tx y.l).toList) = false := by simpa only [toList_tx, beq_eq_false_iff_ne] using hne
    have hsq := eqlHash 25 (Or.inr rfl) (shaOf x.l) (shaOf x.l) (length_shaOf _) (length_shaOf _)
    rw [show (shaOf x.l == shaOf x.l) = true from beq_self_eq_true _] at hsq
    have hsg : ∀ (a c : Operand) (w : World), (eqGuard .eql 25 a c (.agg ((shaOf x.l).map B).toArray) (.agg ((shaOf x.l).map B).toArray)).run Tryd.prog w = .ok () w := fun a c w => run_eqGuard_agg w .eql 25 a c _ _ (by kernel_rfl)
    have HSQ := Lib.hid hsq
    have HSG := Lib.hid hsg
    have HST := Lib.hid hst
    clear hsq hsg hst h h1 h2 hx hy hne hs hxl hyl HSA
    generalize tx x.l = S at *
    generalize tx y.l = T at *
    generalize (shaOf x.l).map B = HX0 at *
    go_wp2_with fail
    refine (HHA.out _ HB2.out).mono ?_
    rintro e w3 ⟨rfl, hb3⟩
    have HB3 := Lib.hid (HB2.out.trans (hb3.mono HB2.out.size))
    have HC3 := Lib.hid hb3
    clear hb3
    go_wp2_with fail
    refine (HHB.out _ HB3.out).mono ?_
    rintro e w4 ⟨rfl, hb4⟩
    have HB4 := Lib.hid (HB3.out.trans (hb4.mono HB3.out.size))
    have HC4 := Lib.hid (HC3.out.trans (hb4.mono HC3.out.size))
    clear hb4
    have heq := HEQ.out
    have hgu := HGU.out
    go_wp2_with fail
    refine (HS2.out _ HB4.out).mono ?_
    rintro e w5 ⟨rfl, hb5⟩
    have HB5 := Lib.hid (HB4.out.trans (hb5.mono HB4.out.size))
    have HC5 := Lib.hid (HC4.out.trans (hb5.mono HC4.out.size))
    clear hb5 heq hgu
    have cv := (HX.out _ HC5.out).1.1
    have cw := (HX.out _ HC5.out).1.2
    have hst := HST.out
    go_wp2_with fail
    refine (HX.out _ HC5.out).2.1.mono ?_
    rintro e w6 ⟨rfl, hb6⟩
    have HB6 := Lib.hid (HB5.out.trans (hb6.mono HB5.out.size))
    have HC6 := Lib.hid (HC5.out.trans (hb6.mono HC5.out.size))
    clear hb6 cv cw hst
    go_wp2_with fail
    refine (HX.out _ HC6.out).2.2.mono ?_
    rintro e w7 ⟨rfl, hb7⟩
    have HB7 := Lib.hid (HB6.out.trans (hb7.mono HB6.out.size))
    clear hb7
    have hsq := HSQ.out
    have hsg := HSG.out
    go_wp2_with fail
    go_ret
    exact ⟨rfl, HB7.out⟩

theorem chainClashes_walk (w : World) (ht : Tab w) (a : Option Addr) (cap : Nat) (ps : List Part) (g o : Nat) (hc : Came w a g o ps) (a' : Option Addr) (cap' : Nat) (qs : List Part) (g' o' : Nat) (hc' : Came w a' g' o' qs) :
    Calls Tryd.prog 7 #[.slice a ps.length cap, .slice a' qs.length cap'] w fun e w' => e = .returned (.bool true) ∧ Below w.heap.size w w' := by
  by_cases h : (decide ((ps.length : Int) ≤ (12 : Nat)) && decide ((fewS (ps.take 200) : Int) ≤ (400 : Nat))) = true
  · by_cases h' : (decide ((qs.length : Int) ≤ (12 : Nat)) && decide ((fewS (qs.take 200) : Int) ≤ (400 : Nat))) = true
    · exact clashes_short w ht ps qs a a' g o cap g' o' cap' hc hc' h h'
    · exact clashes_long w ht ps qs a a' g o cap g' o' cap' hc hc' (.inr (by simpa using h'))
  · exact clashes_long w ht ps qs a a' g o cap g' o' cap' hc hc' (.inl (by simpa using h))
end Go.Proofs.YtmegncaadglhmaaDoor
