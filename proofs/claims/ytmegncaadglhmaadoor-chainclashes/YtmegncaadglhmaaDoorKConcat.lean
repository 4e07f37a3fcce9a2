/- slices.Grow of nothing, slices.Concat of parts, and the text that is linked. -/
import Derived.Test.YtmegncaadglhmaaDoorKQuiet
import Derived.Lib.AppendZerosOnto
import Derived.Lib.Walk
namespace Go.Proofs.YtmegncaadglhmaaDoor
open Go.RowKit

set_option maxRecDepth 100000 in
set_option maxHeartbeats 1000000 in
theorem grow_any (w : World) (n : Nat) (h0 : 0 < n) (hn : n ≤ 10000) :
    Calls Tryd.prog 45 #[.slice none 0 0, .int .i64 (n : Int)] w fun e w' => ∃ v, e = .returned v ∧ w'.ownsRow w.heap.size 5 1 v 0 ([] : List Value) ∧ Below w.heap.size w w' := by
  obtain ⟨i, hi, hz, hsz, hby⟩ := info_parts (show (Tryd.prog.info? 5).map (fun i => (i.zero, i.size, i.bytes)) = some (some (.int .u8 0), 1, 1) by kernel_rfl)
  have hr := fun ty => Lib.run_append_nil_zeros (P := Tryd.prog) w 31 3 ty 5 i (.int .u8 0) .i64 .i64 Tryd.underlying31 Tryd.underlying3 hi hz n h0 (by omega) (by omega) (by rw [hby]; omega)
  have hg1 := grownCap_ge w n 0 5
  have hg2 := grownCap_le_maxLen w n 0 5 (by unfold maxLen; omega)
  have hcs : (Builtin.zeroCells (Value.int .u8 0).cells n ++ Builtin.zeroCells (Value.int .u8 0).cells (grownCap w n 0 5 - n)).size = grownCap w n 0 5 := by
    simp [Builtin.zeroCells, Value.cells]; omega
  generalize grownCap w n 0 5 = G at *
  generalize Builtin.zeroCells (Value.int .u8 0).cells n ++ Builtin.zeroCells (Value.int .u8 0).cells (G - n) = C at *
  have hown : (w.drew.alloc (.cells C 5)).ownsRow w.heap.size 5 1 (.slice (some ⟨w.heap.size, 0, none⟩) 0 G) 0 ([] : List Value) :=
    ⟨rfl, .inr ⟨w.heap.size, G, C, rfl, Nat.le_refl _, heap_alloc_new w.drew _, Nat.zero_le _, hg2, by rw [hcs]; omega, by simp⟩⟩
  have hbe : Below w.heap.size w (w.drew.alloc (.cells C 5)) := (Below.refl _ _).drew.alloc (Nat.le_refl _) _
  have HO := Lib.hid hown
  have HB := Lib.hid hbe
  have hG63 : G ≤ 9223372036854775807 := by unfold maxLen at hg2; omega
  have hd1 : decide ((n : Int) < 0) = false := decide_eq_false (by omega)
  have hd2 : decide ((0 : Int) < (n : Int)) = true := decide_eq_true (by omega)
  have hpos : (0 : Int) < (n : Int) := by omega
  clear hown hbe hcs hg2 hi hz hsz hby
  go_enter Tryd.func45, Tryd.ntmps45
  go_wp2_with (at_builtin; refine Lib.wpList_append_run _ rfl _ _ _ _ rfl _ _ rfl rfl _ _ (hr _) ?_)
  go_ret
  exact ⟨_, rfl, HO.out, HB.out⟩
theorem sum_joined (ps : List Part) (k : Nat) (hk : k < ps.length) : (joined (ps.take (k + 1))).length = (joined (ps.take k)).length + ps[k].l.length := by rw [joined_snoc ps k hk, List.length_append]
set_option maxRecDepth 100000 in
set_option maxHeartbeats 1000000 in
theorem concat_any (w : World) (ps : List Part) (ap : Option Addr) (gp op cp : Nat) (hp : PartsIn w ap gp op ps) (hnil : ∀ p ∈ ps, p.ad = none → p.cap = 0) (hpos : 0 < (joined ps).length) (hm : (joined ps).length ≤ 10000) (hl : ps.length ≤ 1000) :
    Calls Tryd.prog 42 #[.slice ap ps.length cp] w fun e w' => ∃ v, e = .returned v ∧ w'.ownsRow w.heap.size 5 1 v (joined ps).length ((joined ps).map B) ∧ Below w.heap.size w w' := by
  have Hp := Lib.hid hp
  have Hnil := Lib.hid hnil
  have Hpos := Lib.hid hpos
  have Hm := Lib.hid hm
  clear hp hnil hm hpos
  go_enter Tryd.func42, Tryd.ntmps42
  go_wp2_with fail
  go_loop [3, 5, 11] (fun s _ i => ∃ k : Nat, k ≤ ps.length ∧ i = .int .i64 k ∧ s = .int .i64 ((joined (ps.take k)).length : Int)) (fun _ _ i => ps.length - (intOf i).toNat)
  case atStart => exact ⟨0, by omega, rfl, rfl⟩
  case round =>
    obtain ⟨k, hk, rfl, rfl⟩ := hrel
    have hbd := length_joined_take ps k
    have Hmo := Hm.out
    by_cases hlt : k < ps.length
    · have hd : decide ((k : Int) < (ps.length : Int)) = true := by simp; omega
      obtain rfl := Hp.out.at' (by intro e; rw [e] at hlt; cases hlt)
      have hcell : w.cell? ⟨gp, op + k, none⟩ = some (.slice ps[k].ad ps[k].l.length ps[k].cap) := by rw [Hp.out.cell k hlt]; rfl
      have hbd2 := length_joined_take ps (k + 1)
      have hsj := sum_joined ps k hlt
      rw [hsj] at hbd2
      have HSJ := Lib.hid hsj
      clear hsj
      generalize ps[k] = q at *
      generalize (joined (ps.take k)).length = s at *
      have hneg : decide ((s : Int) + (q.l.length : Int) < 0) = false := decide_eq_false (by omega)
      go_wp2_with fail
      go_round
      case rel => exact ⟨k + 1, by omega, by go_num, by rw [HSJ.out]; go_num⟩
      case measure => simp [intOf]; omega
    · have hd : decide ((k : Int) < (ps.length : Int)) = false := by simp; omega
      obtain rfl : k = ps.length := by omega
      rw [List.take_length]
      have HGr := Lib.hid (grow_any w (joined ps).length Hpos.out Hm.out)
      clear hbd
      go_wp2_with fail
      refine HGr.out.mono ?_
      rintro e w1 ⟨v0, rfl, hown0, hb0⟩
      have R0 : w1.ownsRow w.heap.size 5 1 v0 (joined (ps.take 0)).length ((joined (ps.take 0)).map B) := hown0
      have HB0 := Lib.hid hb0
      clear hown0 hb0
      go_wp2_with fail
      go_loopw [6, 8, 27] (fun v _ i wr => ∃ k : Nat, k ≤ ps.length ∧ i = .int .i64 k ∧ wr.ownsRow w.heap.size 5 1 v (joined (ps.take k)).length ((joined (ps.take k)).map B) ∧ Below w.heap.size w wr) (fun _ _ i _ => ps.length - (intOf i).toNat)
      case atStart => exact ⟨0, by omega, rfl, R0, HB0.out⟩
      case round =>
        clear R0 HB0
        obtain ⟨k, hk, rfl, hown, hb⟩ := hrel
        by_cases hlt : k < ps.length
        · have hd : decide ((k : Int) < (ps.length : Int)) = true := by simp; omega
          have hin : ps[k].In wr := (Hp.out.parts ps[k] (List.getElem_mem hlt)).below hb
          obtain rfl := Hp.out.at' (by intro e; rw [e] at hlt; cases hlt)
          have hcell : wr.cell? ⟨gp, op + k, none⟩ = some (.slice ps[k].ad ps[k].l.length ps[k].cap) := by
            rw [hb.cell (by exact Hp.out.lt), Hp.out.cell k hlt]; rfl
          have hbd := length_joined_take ps (k + 1)
          rw [joined_snoc ps k hlt, List.length_append] at hbd
          have hsn := joined_snoc ps k hlt
          have hnk := Hnil.out ps[k] (List.getElem_mem hlt)
          have Hmo := Hm.out
          have Hin := Lib.hid hin
          have Hown := Lib.hid hown
          have Hb := Lib.hid hb
          have Hsn := Lib.hid hsn
          have Hnk := Lib.hid hnk
          generalize ps[k] = q at *
          have hbs : w.heap.size ≤ wr.heap.size := hb.size
          clear hin hown hb hsn hnk
          go_wp2_with (at_builtin; refine wpList_append_part rfl (.tmp 31) (.tmp 32) rfl w.heap.size _ _ (joined (ps.take k)) rfl Hown.out q Hin.out Hnk.out rfl (by omega) hbs ?_)
          intro v' w' hown' hb'
          have hown2 : w'.ownsRow w.heap.size 5 1 v' (joined (ps.take (k + 1))).length ((joined (ps.take (k + 1))).map B) := by rw [Hsn.out, List.length_append, List.map_append]; simpa using hown'
          have hb2 := Hb.out.trans hb'
          have Hown2 := Lib.hid hown2
          have Hb2 := Lib.hid hb2
          clear hown' hb' hown2 hb2 Hown Hb
          go_wp2_with fail
          go_roundw
          case rel => exact ⟨k + 1, by omega, by go_num, Hown2.out, Hb2.out⟩
          case measure => simp [intOf]; omega
        · have hd : decide ((k : Int) < (ps.length : Int)) = false := by simp; omega
          have hkl : k = ps.length := by omega
          rw [hkl, List.take_length] at hown
          have Hown := Lib.hid hown
          have Hb := Lib.hid hb
          clear hown hb hkl
          go_wp2_with fail
          go_ret
          exact ⟨_, rfl, Hown.out, Hb.out⟩

set_option maxRecDepth 100000 in
set_option maxHeartbeats 1000000 in
theorem linked_any (w : World) (P : List UInt8) (hP : P.length = 32) (p : Part) (hp : p.In w) (hnil : p.ad = none → p.cap = 0) (hl : p.l.length ≤ 1000) :
    Calls Tryd.prog 31 #[.agg (P.map B).toArray, .slice p.ad p.l.length p.cap] w fun e w' => ∃ q : Part, e = .returned (.slice q.ad q.l.length q.cap) ∧ q.l = P ++ (len4 p.l.length ++ p.l) ∧ q.In w' ∧ Below w.heap.size w w' := by
  have HP := Lib.hid hp
  have HN := Lib.hid hnil
  have hL32 : (P.map B).length = 32 := by simp [hP]
  have hone : ∀ v ∈ P.map B, v.oneCell' = true := one_bytes P
  have h0 : 0 < w.heap.size := Nat.lt_of_le_of_lt (Nat.zero_le _) hp.lt
  clear hp hnil
  generalize hL : P.map B = L at *
  go_enter Tryd.func31, Tryd.ntmps31
  go_wp2_with fail
  generalize hW : World.alloc _ _ = W1 at *
  have hb1 : Below w.heap.size w W1 := by rw [← hW]; exact (((Below.refl _ _).alloc (Nat.le_refl _) _).alloc (by simp) _).alloc (by simp; omega) _
  have gP : W1.heap[w.heap.size]? = some (.cells L.toArray 26 (0, 0)) := by
    rw [← hW, Below.heap_alloc _ _ _ (by simp; omega), Below.heap_alloc _ _ _ (by simp)]; exact heap_alloc_new _ _
  have g4 : W1.heap[w.heap.size + 1]? = some (.cells ((len4 p.l.length).map B).toArray 5 (0, 0)) := by
    rw [← hW, Below.heap_alloc _ _ _ (by simp), len4_quo _ hl]; exact heap_alloc2_new _ _ _
  have gG : W1.heap[w.heap.size + 1 + 1]? = some (.cells #[.slice (some ⟨w.heap.size, 0, none⟩) 32 32, .slice (some ⟨w.heap.size + 1, 0, none⟩) 4 4, .slice p.ad p.l.length p.cap] 31 (0, 0)) := by
    rw [← hW]; exact heap_alloc3_new _ _ _ _
  clear hW
  have hj : joined [⟨some ⟨w.heap.size, 0, none⟩, w.heap.size, 0, 32, P⟩, ⟨some ⟨w.heap.size + 1, 0, none⟩, w.heap.size + 1, 0, 4, len4 p.l.length⟩, p] = P ++ (len4 p.l.length ++ p.l) := by simp [joined]
  have hjl : (P ++ (len4 p.l.length ++ p.l)).length = 36 + p.l.length := by simp [len4, hP]; omega
  have HJ : Hid (Calls Tryd.prog 42 #[.slice (some ⟨w.heap.size + 1 + 1, 0, none⟩) 3 3] W1 fun e w' => ∃ v, e = .returned v ∧ w'.ownsRow W1.heap.size 5 1 v (P ++ (len4 p.l.length ++ p.l)).length ((P ++ (len4 p.l.length ++ p.l)).map B) ∧ Below W1.heap.size W1 w') := Lib.hid (by
    rw [← hj]
    refine concat_any W1 [⟨some ⟨w.heap.size, 0, none⟩, w.heap.size, 0, 32, P⟩, ⟨some ⟨w.heap.size + 1, 0, none⟩, w.heap.size + 1, 0, 4, len4 p.l.length⟩, p] (some ⟨w.heap.size + 1 + 1, 0, none⟩) (w.heap.size + 1 + 1) 0 3 ⟨fun _ => rfl, ?_, lt_block gG, ?_⟩ ?_ (by rw [hj]; omega) (by rw [hj]; omega) (by simp)
    · intro i hi
      rw [cell_block gG]
      match i, hi with
      | 0, _ => simp [Part.val, hP]
      | 1, _ => simp [Part.val, len4]
      | 2, _ => simp [Part.val]
      | k + 3, hk => exact absurd hk (by simp)
    · intro q hq
      rcases List.mem_cons.1 hq with rfl | hq
      · have := partNew (l := P) (by rw [hL]; exact gP)
        rwa [hP] at this
      rcases List.mem_cons.1 hq with rfl | hq
      · exact partNew (l := len4 p.l.length) g4
      rcases List.mem_cons.1 hq with rfl | hq
      · exact HP.out.below hb1
      cases hq
    · intro q hq hn
      rcases List.mem_cons.1 hq with rfl | hq
      · cases hn
      rcases List.mem_cons.1 hq with rfl | hq
      · cases hn
      rcases List.mem_cons.1 hq with rfl | hq
      · exact HN.out hn
      cases hq)
  have HB1 := Lib.hid hb1
  clear gP g4 gG hj hjl hb1
  refine HJ.out.mono ?_
  rintro e w3 ⟨v, rfl, hown, hb3⟩
  obtain ⟨q, hqv, hqin, hql, _, _, _⟩ := part_of_own hown (by have := hb3.size; have := HB1.out.size; omega)
  unfold Part.val at hqv
  have HQV := Lib.hid hqv
  have HQ := Lib.hid hqin
  have HQL := Lib.hid hql
  have HB3 := Lib.hid (HB1.out.trans (hb3.mono HB1.out.size))
  clear hown hb3 HJ hqv hqin hql
  go_wp2_with fail
  go_ret
  exact ⟨q, by rw [HQV.out]; rfl, HQL.out, HQ.out, HB3.out⟩
end Go.Proofs.YtmegncaadglhmaaDoor
