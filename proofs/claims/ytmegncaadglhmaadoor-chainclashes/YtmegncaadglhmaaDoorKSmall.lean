/- Small calls: bytes compared, lists of a size that is looked at, lists compared. -/
import Derived.Test.YtmegncaadglhmaaDoorKAll
namespace Go.Proofs.YtmegncaadglhmaaDoor
open Go.RowKit

/-- bytes as a text -/
def tx (l : List UInt8) : ByteArray := ⟨l.toArray⟩
theorem toList_tx (l : List UInt8) : (tx l).toList = l := by rw [ByteArray.toList_eq]; rfl
theorem conv_part {w : World} {p : Part} (h : p.In w) : (convert 31 9 (.slice p.ad p.l.length p.cap)).run Tryd.prog w = .ok (.string (tx p.l)) w := by
  obtain ⟨ad, g, o, cap, l⟩ := p
  dsimp only
  by_cases hl : l = []
  · subst hl
    rw [show ([] : List UInt8).length = 0 from rfl, run_convert_bytes_string w 31 9 5 _ 0 cap Tryd.underlying31 Tryd.underlying5 Tryd.underlying9]
    cases ad <;> simp [Conv.bytesToString]
    all_goals rfl
  · have hb := h.bytes
    have had : ad = some ⟨g, o, none⟩ := hb.at' hl
    subst had
    exact run_convert_bytes_back (P := Tryd.prog) w 31 9 5 ⟨g, o, none⟩ cap l Tryd.underlying31 Tryd.underlying5 Tryd.underlying9 (fun j hj => by rw [Addr.add_mid]; exact hb.cell j hj)

theorem equal_any (w : World) (p q : Part) (hp : p.In w) (hq : q.In w) :
    Calls Tryd.prog 23 #[.slice p.ad p.l.length p.cap, .slice q.ad q.l.length q.cap] w fun e w' => e = .returned (.bool (p.l == q.l)) ∧ w = w' := by
  have c1 := conv_part hp
  have c2 := conv_part hq
  have e1 := toList_tx p.l
  have e2 := toList_tx q.l
  clear hp hq
  generalize tx p.l = S at *
  generalize tx q.l = T at *
  have E1 := Lib.hid e1
  have E2 := Lib.hid e2
  clear e1 e2
  go_enter Tryd.func23, Tryd.ntmps23
  go_wp2
  go_ret
  exact ⟨by rw [E1.out, E2.out]; rfl, rfl⟩

set_option maxRecDepth 100000 in
set_option maxHeartbeats 400000 in
theorem few_any (w : World) (ps : List Part) (ap : Option Addr) (gp op cp : Nat) (n : Nat) (hn : n ≤ 100) (most : Int) (hp : PartsIn w ap gp op ps) (hm : ps.length ≤ maxLen) (hl : ∀ p ∈ ps, p.l.length ≤ maxLen) :
    Calls Tryd.prog 9 #[.slice ap ps.length cp, .int .i64 n, .int .i64 most] w fun e w' => e = .returned (.bool (decide ((ps.length : Int) ≤ n) && decide ((fewS (ps.take 200) : Int) ≤ most))) ∧ w = w' := by
  have hm' := hm
  unfold maxLen at hm'
  have HP := Lib.hid hp
  have HL := Lib.hid hl
  clear hp hl hm
  go_enter Tryd.func9, Tryd.ntmps9
  go_wp2_with fail
  go_loop [7, 8] (fun n i => ∃ k : Nat, k ≤ ps.length ∧ k ≤ 200 ∧ i = .int .i64 k ∧ n = .int .i64 (fewS (ps.take k) : Int)) (fun _ i => 200 - (intOf i).toNat)
  case atStart => exact ⟨0, by omega, by omega, rfl, rfl⟩
  case round =>
    obtain ⟨k, hk, hk2, rfl, rfl⟩ := hrel
    have hbd := fewS_le (ps.take k)
    have hbl : (ps.take k).length ≤ 200 := by simp; omega
    by_cases hlt : k < ps.length
    · by_cases h200 : k < 200
      · obtain rfl := HP.out.at' (by intro e; subst e; simp at hlt)
        have hc := HP.out.cell k hlt
        unfold Part.val at hc
        have hlk := HL.out ps[k] (List.getElem_mem _)
        unfold maxLen at hlk
        have hsn := fewS_snoc ps k hlt
        generalize ps[k] = p at *
        have HSN := Lib.hid hsn
        generalize hF : fewS (ps.take k) = F at *
        clear hsn hF
        by_cases h1 : p.l.length < 10000
        · go_wp2_with fail
          all_goals
            go_round
            case rel => exact ⟨k + 1, by omega, by omega, by go_num, by rw [HSN.out]; (first | rw [show min p.l.length 10000 = p.l.length by omega] | skip); go_num⟩
            case measure => simp [intOf]; omega
        · go_wp2_with fail
          all_goals
            go_round
            case rel => exact ⟨k + 1, by omega, by omega, by go_num, by rw [HSN.out, show min p.l.length 10000 = 10000 by omega]; go_num⟩
            case measure => simp [intOf]; omega
      · have e : ps.take k = ps.take 200 := by rw [show k = 200 by omega]
        obtain ⟨s, hs⟩ : ∃ s, fewS (ps.take k) = s := ⟨_, rfl⟩
        rw [hs] at hbd ⊢
        have HF := Lib.hid (show fewS (ps.take 200) = s by rw [← e]; exact hs)
        clear e hs
        by_cases h100 : ps.length ≤ n
        · exact absurd h100 (by omega)
        · go_wp2_with fail
          go_ret
          exact ⟨ret_bool' (by first | rfl | rw [decide_eq_false (show ¬ (ps.length : Int) ≤ n by omega), Bool.false_and]), rfl⟩
    · have e : ps.take k = ps.take 200 := by rw [List.take_of_length_le (by omega), List.take_of_length_le (by omega)]
      obtain ⟨s, hs⟩ : ∃ s, fewS (ps.take k) = s := ⟨_, rfl⟩
      rw [hs] at hbd ⊢
      have HF := Lib.hid (show fewS (ps.take 200) = s by rw [← e]; exact hs)
      clear e hs
      by_cases h100 : ps.length ≤ n
      · go_wp2_with fail
        go_ret
        exact ⟨ret_bool' (by rw [HF.out]), rfl⟩
      · go_wp2_with fail
        go_ret
        exact ⟨ret_bool' (by first | rfl | rw [decide_eq_false (show ¬ (ps.length : Int) ≤ n by omega), Bool.false_and]), rfl⟩

/-- the texts of a list -/
def txs (ps : List Part) : List (List UInt8) := ps.map (·.l)
theorem txs_take_succ (ps qs : List Part) (k : Nat) (h1 : k < ps.length) (h2 : k < qs.length) (h : txs (ps.take k) = txs (qs.take k)) (he : ps[k].l = qs[k].l) : txs (ps.take (k + 1)) = txs (qs.take (k + 1)) := by
  unfold txs at *
  rw [List.take_succ_eq_append_getElem h1, List.take_succ_eq_append_getElem h2, List.map_append, List.map_append, h]
  simp [he]
theorem txs_ne (ps qs : List Part) (k : Nat) (h1 : k < ps.length) (h2 : k < qs.length) (he : ps[k].l ≠ qs[k].l) : txs ps ≠ txs qs := fun h => he (by
  have := congrArg (fun l => l[k]?) h
  simpa [txs, h1, h2] using this)
set_option maxRecDepth 100000 in
set_option maxHeartbeats 400000 in
theorem same_any (w : World) (ps qs : List Part) (ap aq : Option Addr) (gp op cp gq oq cq : Nat) (hp : PartsIn w ap gp op ps) (hq : PartsIn w aq gq oq qs) (hm : ps.length ≤ maxLen) (_ : qs.length ≤ maxLen) :
    Calls Tryd.prog 15 #[.slice ap ps.length cp, .slice aq qs.length cq] w fun e w' => e = .returned (.bool (decide (txs ps = txs qs))) ∧ Below w.heap.size w w' := by
  unfold maxLen at hm
  have HP := Lib.hid hp
  have HQ := Lib.hid hq
  clear hp hq
  by_cases hlen : ps.length = qs.length
  · go_enter Tryd.func15, Tryd.ntmps15
    rw [← hlen]
    go_wp2_with fail
    go_loopw [5] (fun i wr => ∃ k : Nat, k ≤ ps.length ∧ i = .int .i64 k ∧ txs (ps.take k) = txs (qs.take k) ∧ Below w.heap.size w wr) (fun i _ => ps.length - (intOf i).toNat)
    case atStart => exact ⟨0, by omega, rfl, rfl, Below.refl _ _⟩
    case round =>
      obtain ⟨k, hk, rfl, hs, hb⟩ := hrel
      have HS := Lib.hid hs
      clear hs
      by_cases hlt : k < ps.length
      · have hd : decide ((k : Int) < (ps.length : Int)) = true := by simp; omega
        have hlt2 : k < qs.length := by omega
        obtain rfl := HP.out.at' (by intro e; rw [e] at hlt; cases hlt)
        obtain rfl := HQ.out.at' (by intro e; rw [e] at hlt2; cases hlt2)
        have HC1 : Hid (∀ W : World, Below wr.heap.size wr W → W.cell? ⟨gp, op + k, none⟩ = some (.slice ps[k].ad ps[k].l.length ps[k].cap) ∧ (convert 31 9 (.slice ps[k].ad ps[k].l.length ps[k].cap)).run Tryd.prog W = .ok (.string (tx ps[k].l)) W) := Lib.hid fun W hW => by
          have hbW := hb.trans (hW.mono hb.size)
          exact ⟨by rw [hbW.cell (by exact HP.out.lt), HP.out.cell k hlt]; rfl, conv_part ((HP.out.parts ps[k] (List.getElem_mem hlt)).below hbW)⟩
        have HC2 : Hid (∀ W : World, Below wr.heap.size wr W → W.cell? ⟨gq, oq + k, none⟩ = some (.slice qs[k].ad qs[k].l.length qs[k].cap) ∧ (convert 31 9 (.slice qs[k].ad qs[k].l.length qs[k].cap)).run Tryd.prog W = .ok (.string (tx qs[k].l)) W) := Lib.hid fun W hW => by
          have hbW := hb.trans (hW.mono hb.size)
          exact ⟨by rw [hbW.cell (by exact HQ.out.lt), HQ.out.cell k hlt2]; rfl, conv_part ((HQ.out.parts qs[k] (List.getElem_mem hlt2)).below hbW)⟩
        have HT := Lib.hid (fun he => txs_take_succ ps qs k hlt hlt2 HS.out he)
        have HN := Lib.hid (fun he => txs_ne ps qs k hlt hlt2 he)
        have e1 := toList_tx ps[k].l
        have e2 := toList_tx qs[k].l
        generalize ps[k] = p at *
        generalize qs[k] = q at *
        obtain ⟨b, hbb⟩ : ∃ b, (p.l == q.l) = b := ⟨_, rfl⟩
        have hbe : ((tx p.l).toList == (tx q.l).toList) = b := by rw [e1, e2]; exact hbb
        have HBB := Lib.hid hbb
        generalize tx p.l = S at *
        generalize tx q.l = T at *
        have HB := Lib.hid hb
        clear e1 e2 hbb hb
        go_wp2_with fail
        refine wp_region_quietB (by kernel_rfl) (by kernel_rfl) ?_
        iterate 3 (go_big_quiet_step (fail))
        refine wpQuiet_of_op rfl (.slice p.ad p.l.length p.cap) (fun w' ⟨m, hw'⟩ => by subst hw'; have c := (HC1.out _ m.below).1; go_simp) ?_
        simp only [Act.put, List.setIfInBounds_toArray, List.set_cons_succ, List.set_cons_zero]
        refine wpQuiet_of_op rfl (.string S) (fun w' ⟨m, hw'⟩ => by subst hw'; have c := (HC1.out _ m.below).2; go_simp) ?_
        simp only [Act.put, List.setIfInBounds_toArray, List.set_cons_succ, List.set_cons_zero]
        iterate 3 (go_big_quiet_step (fail))
        refine wpQuiet_of_op rfl (.slice q.ad q.l.length q.cap) (fun w' ⟨m, hw'⟩ => by subst hw'; have c := (HC2.out _ m.below).1; go_simp) ?_
        simp only [Act.put, List.setIfInBounds_toArray, List.set_cons_succ, List.set_cons_zero]
        refine wpQuiet_of_op rfl (.string T) (fun w' ⟨m, hw'⟩ => by subst hw'; have c := (HC2.out _ m.below).2; go_simp) ?_
        simp only [Act.put, List.setIfInBounds_toArray, List.set_cons_succ, List.set_cons_zero]
        go_big_quiet_step (fail)
        refine wpQuiet_nil ?_
        intro m
        have HBM := Lib.hid (HB.out.trans (m.below.mono HB.out.size))
        generalize m.wr = W1 at *
        clear m HC1 HC2 HB
        cases b
        · go_wp2_with fail
          go_ret
          exact ⟨ret_bool' (by rw [decide_eq_false (HN.out (by simpa using HBB.out))]), HBM.out⟩
        · go_wp2_with fail
          go_roundw
          case rel => exact ⟨k + 1, by omega, by go_num, HT.out (by simpa using HBB.out), HBM.out⟩
          case measure => simp [intOf]; omega
      · have hd : decide ((k : Int) < (ps.length : Int)) = false := by simp; omega
        obtain rfl : k = ps.length := by omega
        have hsame : txs ps = txs qs := by have := HS.out; rwa [List.take_length, hlen, List.take_length] at this
        have HSM := Lib.hid hsame
        have HB := Lib.hid hb
        clear hsame hb
        go_wp2_with fail
        go_ret
        exact ⟨ret_bool' (by rw [decide_eq_true HSM.out]), HB.out⟩
  · have hne : txs ps ≠ txs qs := fun h => hlen (by have := congrArg List.length h; simpa [txs] using this)
    have HNE := Lib.hid hne
    have hd : ((ps.length : Int) != (qs.length : Int)) = true := by simp; omega
    clear hne
    go_enter Tryd.func15, Tryd.ntmps15
    go_wp2_with fail
    go_ret
    exact ⟨ret_bool' (by rw [decide_eq_false HNE.out]), Below.refl _ _⟩
end Go.Proofs.YtmegncaadglhmaaDoor
