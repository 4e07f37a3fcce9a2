/- ShaOwn: what is handed in stays, and may change behind without a change to the stream: the walk. -/
import Derived.Test.YtmkgjhnlloalfaaDoorRefJoin
import Derived.Test.YtmkgjhnlloalfaaDoorCuts
namespace Go.Proofs.YtmkgjhnlloalfaaDoor
open Go.RowKit

set_option maxRecDepth 100000 in
set_option maxHeartbeats 1000000 in
theorem own_long (w : World) (p : Part) (hp : p.In w) (ht : Tab w) (hl : 300 < p.l.length) :
    Calls Tryd.prog 7 #[p.val] w fun e w' => e = .returned (.bool true) ∧ Below w.heap.size w w' := by
  have h0 := ht.size
  unfold Part.val
  have hd : decide ((300 : Int) < (p.l.length : Int)) = true := by simp; omega
  have Ht := Lib.hid ht
  have Hp := Lib.hid hp
  clear ht hp
  go_enter Tryd.func7, Tryd.ntmps7
  go_wp2_with fail
  refine (awake_any w Ht.out).mono ?_
  rintro e w1 ⟨rfl, hb1⟩
  have Hb1 := Lib.hid hb1
  clear hb1
  go_wp2_with fail
  refine (awake_any w1 (Ht.out.below Hb1.out h0)).mono ?_
  rintro e w2 ⟨rfl, hb2⟩
  have Hb2 := Lib.hid (Hb1.out.trans (hb2.mono Hb1.out.size))
  clear hb2
  go_wp2_with fail
  go_ret
  exact ⟨rfl, Hb2.out⟩

/-- what the loop over the copy keeps -/
structure OwnRel (w1 : World) (b g : Nat) (l : List UInt8) (k : Nat) (wr : World) : Prop where
  holds : Holds wr b 57 l
  below : Below w1.heap.size w1 wr
  cells : 0 < l.length → ∃ cur : Array Value, wr.heap[g]? = some (.cells cur 5 (0, 0)) ∧ ∀ j, k ≤ j → (h : j < l.length) → cur[j]? = some (B l[j])

set_option maxRecDepth 100000 in
set_option maxHeartbeats 1000000 in
theorem own_short (w : World) (p : Part) (hp : p.In w) (hnil : p.ad = none → p.cap = 0) (ht : Tab w) (hl : p.l.length ≤ 300) :
    Calls Tryd.prog 7 #[p.val] w fun e w' => e = .returned (.bool true) ∧ Below w.heap.size w w' := by
  have h0 := ht.size
  unfold Part.val
  have hd : decide ((300 : Int) < (p.l.length : Int)) = false := by simp; omega
  have Ht := Lib.hid ht
  have Hp := Lib.hid hp
  have Hnil := Lib.hid hnil
  clear ht hp hnil
  go_enter Tryd.func7, Tryd.ntmps7
  go_wp2_with fail
  refine (awake_any w Ht.out).mono ?_
  rintro e w1 ⟨rfl, hb1⟩
  have hsz1 := hb1.size
  have own0 : (w1.alloc (.cells #[] 5)).ownsRow w1.heap.size 5 1 (.slice (some ⟨w1.heap.size, 0, none⟩) 0 0) 0 (([] : List UInt8).map B) :=
    ⟨rfl, .inr ⟨w1.heap.size, 0, #[], rfl, Nat.le_refl _, heap_alloc_new _ _, Nat.le_refl _, by unfold maxLen; omega, rfl, rfl⟩⟩
  have bA : Below w1.heap.size w1 (w1.alloc (.cells #[] 5)) := (Below.refl _ _).alloc (Nat.le_refl _) _
  have pA : p.In (w1.alloc (.cells #[] 5)) := (Hp.out.below hb1).below bA
  have Hb1 := Lib.hid hb1
  have Own0 := Lib.hid own0
  have PA := Lib.hid pA
  have BA := Lib.hid bA
  clear hb1 own0 pA bA
  go_wp2_with (at_builtin; refine wpList_append_part rfl (.tmp 14) (.tmp 15) rfl w1.heap.size _ 0 [] rfl Own0.out p PA.out Hnil.out rfl (by omega) (by simp only [World.size_alloc]; omega) ?_)
  intro v' w2 hown hb2
  have hbb : Below w.heap.size w w2 := Hb1.out.trans ((BA.out.trans hb2).mono hsz1)
  have hsz2 : w1.heap.size ≤ w2.heap.size := (BA.out.trans hb2).size
  obtain ⟨q, rfl, hqin, hql, hqnil, hqo, hqg⟩ := part_of_own hown (by omega)
  have hqad : 0 < p.l.length → q.ad = some ⟨q.g, 0, none⟩ := fun h => by
    have := hqin.bytes.at' (by rw [hql]; intro e; simp [e] at h)
    rwa [hqo] at this
  have hqlt : 0 < p.l.length → w1.heap.size ≤ q.g ∧ q.g < w2.heap.size := fun h => hown.lt q.g (by unfold Part.val; rw [hqad h]; rfl)
  have hcur : 0 < p.l.length → ∃ cur : Array Value, w2.heap[q.g]? = some (.cells cur 5 (0, 0)) ∧ ∀ j, (h : j < p.l.length) → cur[j]? = some (B p.l[j]) := fun h => by
    have hq2 := hown.2
    unfold Part.val at hq2
    rw [hqad h] at hq2
    rcases hq2 with ⟨hh, _⟩ | ⟨g, cap, cur, hv, _, hg, hc, _, hsz, htk⟩
    · cases hh
    · injection hv with hv1 _ _
      injection hv1 with hv1
      injection hv1 with hv1
      subst hv1
      refine ⟨cur, hg, fun j hj => ?_⟩
      have := congrArg (fun l => l[j]?) htk
      simp only [List.getElem?_take, List.getElem?_map] at this
      rw [if_pos (by omega)] at this
      simpa [hj] using this
  have Hq := Lib.hid hqin
  have Hqad := Lib.hid hqad
  have Hqlt := Lib.hid hqlt
  have Hcur := Lib.hid hcur
  have Hbb := Lib.hid hbb
  have Hb12 := Lib.hid (BA.out.trans hb2)
  clear Own0 PA BA hb2 hown hqin hqg hbb hqnil hqad hqlt hcur
  unfold Part.val
  rw [hql]
  go_wp2_with fail
  refine (new_any w2).mono ?_
  rintro e w3 ⟨rfl, hh3, hb3, hz3⟩
  have HW : Hid (∀ W : World, Below w3.heap.size w3 W → W.heap[w3.heap.size]? = some (.cells #[.slice q.ad p.l.length q.cap] 29 (0, 0)) →
      Calls Tryd.prog 14 #[.pointer (some ⟨w2.heap.size, 0, none⟩), .slice (some ⟨w3.heap.size, 0, none⟩) 1 1] W fun e w' => e = .returned (.tuple #[]) ∧ Holds w' w2.heap.size 57 p.l ∧ Kept1 w2.heap.size W w') := by
    intro W hW hG
    have hBW : Below w2.heap.size w2 W := hb3.trans (hW.mono hb3.size)
    have hBW0 : Below w.heap.size w W := Hbb.out.trans (hBW.mono Hbb.out.size)
    have hgl := Hq.out.lt
    have hpl : [] ++ joined [q] = p.l := by simp [joined, hql]
    have hc := write_here W w2.heap.size w3.heap.size 1 [] [q] rfl (by simpa [Part.val, hql] using hG) (by omega) (by
      intro r hr
      rw [List.mem_singleton.1 hr]
      exact (Hq.out.below hBW).ok (by omega)) (hh3.below hW) (Ht.out.below hBW0 h0) (by omega) (by rw [← List.length_append, hpl]; omega) (by simp)
    rw [hpl] at hc
    exact hc
  have Hb3 := Lib.hid hb3
  have Hz3 := Lib.hid hz3
  clear hh3 hb3 hz3
  dsimp only
  go_wp2_with fail
  refine (HW.out _ ((Below.refl _ _).alloc (Nat.le_refl _) _) (heap_alloc_new _ _)).mono ?_
  rintro e w4 ⟨rfl, hh4, hk4⟩
  have hbA : Below w3.heap.size w3 (w3.alloc (.cells #[.slice q.ad p.l.length q.cap] 29)) := (Below.refl _ _).alloc (Nat.le_refl _) _
  have hb2A : Below w2.heap.size w2 (w3.alloc (.cells #[.slice q.ad p.l.length q.cap] 29)) := Hb3.out.trans (hbA.mono Hb3.out.size)
  have hb4 : Below w2.heap.size w2 w4 := Kept1.mono hb2A hk4 (Nat.le_refl _)
  have R0 : OwnRel w1 w2.heap.size q.g p.l 0 w4 := ⟨hh4, Hb12.out.trans (hb4.mono hsz2), fun h => by
    obtain ⟨cur, h1, h2⟩ := Hcur.out h
    exact ⟨cur, (hb4.block _ (Hqlt.out h).2).trans h1, fun j _ hj => h2 j hj⟩⟩
  generalize w3.alloc (.cells #[.slice q.ad p.l.length q.cap] 29) = wA at *
  have hbw2 : w2.heap.size < w4.heap.size := hh4.lt
  clear HW hh4 hk4 hbA hb2A hb4 Hcur Hq Hb3 Hz3
  go_wp2_with fail
  go_loopw [5] (fun i wr => ∃ k : Nat, k ≤ p.l.length ∧ i = .int .i64 k ∧ OwnRel w1 w2.heap.size q.g p.l k wr) (fun i _ => p.l.length - (intOf i).toNat)
  case atStart => exact ⟨0, by omega, rfl, R0⟩
  case round =>
    clear R0
    obtain ⟨k, hk, rfl, hr⟩ := hrel
    by_cases hlt : k < p.l.length
    · have hdk : decide ((k : Int) < (p.l.length : Int)) = true := by simp; omega
      obtain ⟨cur, hcg, hcc⟩ := hr.cells (by omega)
      have hqa := Hqad.out (by omega)
      have hqs := Hqlt.out (by omega)
      have hpad := Hp.out.bytes.at' (by intro e; rw [e] at hlt; cases hlt)
      have c1 : wr.cell? ⟨q.g, k, none⟩ = some (.int .u8 (p.l[k].toNat : Int)) := by
        rw [cell_of_row wr q.g k cur 5 (0, 0) hcg]; exact hcc k (Nat.le_refl _) hlt
      have f1 := frozen_of_row wr q.g k _ _ hcg
      have c2 : wr.cell? ⟨p.g, p.o + k, none⟩ = some (.int .u8 (p.l[k].toNat : Int)) := by
        have h1 := Hp.out.lt
        rw [hr.below.cell (by show p.g < _; omega), Hb1.out.cell (by exact h1)]; exact Hp.out.bytes.cell k hlt
      have HR := Lib.hid hr
      have Hcg := Lib.hid hcg
      have Hcc := Lib.hid hcc
      clear hr hcg hcc
      rw [hqa, hpad]
      generalize (p.l[k].toNat : Int) = x at *
      go_wp2_with fail
      refine wp_region_fresh 8 [.calm, .calm, .calm, .calm, .calm, .calm, .calm, .calm] (fun _ => .cells #[] 0) (fun _ => .cells #[] 0) (fun _ _ => undef) (by kernel_rfl) (by kernel_rfl) (by kernel_rfl) ?_
      intro R hR
      have hne := hR.nonempty
      simp only [List.take_succ_cons, List.take_zero, List.drop_succ_cons, List.drop_zero, calmL]
      have lq : q.g < wr.heap.size := lt_block Hcg.out
      have lp : p.g < wr.heap.size := by have h1 := Hp.out.lt; have h2 := HR.out.below.size; omega
      have cm1 : ∀ m : BlR wr R, m.wr.cell? ⟨q.g, k, none⟩ = some (.int .u8 x) := fun m => by rw [m.below.cell (by exact lq)]; exact c1
      have cm2 : ∀ m : BlR wr R, m.wr.cell? ⟨p.g, p.o + k, none⟩ = some (.int .u8 x) := fun m => by rw [m.below.cell (by exact lp)]; exact c2
      iterate 8 (go_big_quiet_step (fail))
      refine wpQuiet_nil ?_
      refine ⟨by simp only [obF], ?_⟩
      intro γ wx hf
      clear cm1 cm2 hR hne R
      simp only [putF]
      have hbx := hf.below
      clear hf
      have d1 : wx.cell? ⟨q.g, k, none⟩ = some (.int .u8 x) := by rw [hbx.cell (by exact lq)]; exact c1
      have hgx := (hbx.block _ lq).trans Hcg.out
      have g1 := frozen_of_row wx q.g k _ _ hgx
      have hrx : OwnRel w1 w2.heap.size q.g p.l (k + 1) (wx.setCell ⟨q.g, k, none⟩ (.int .u8 ((x + 1) % 256))) := by
        have hk1 : Kept1 q.g wx (wx.setCell ⟨q.g, k, none⟩ (.int .u8 ((x + 1) % 256))) := Kept1.setCell (Kept1.refl q.g wx) ⟨q.g, k, none⟩ (Or.inl rfl) _
        refine ⟨(HR.out.holds.below hbx).kept hk1 (by omega), Kept1.mono (HR.out.below.trans (hbx.mono HR.out.below.size)) hk1 hqs.1, fun _ => ⟨_, heap_setCell_same _ _ _ _ _ _ hgx, fun j hj h => ?_⟩⟩
        rw [Array.getElem?_setIfInBounds_ne (by omega)]
        exact Hcc.out j (by omega) h
      have Hrx := Lib.hid hrx
      clear hrx c1 c2 f1 HR Hcg Hcc hgx
      go_wp2_with fail
      go_roundw
      case rel => exact ⟨k + 1, by omega, by go_num, Hrx.out⟩
      case measure => simp [intOf]; omega
    · have hdk : decide ((k : Int) < (p.l.length : Int)) = false := by simp; omega
      have hbe : Below w.heap.size w wr := Hb1.out.trans (hr.below.mono hsz1)
      have htb := Ht.out.below hbe h0
      have hh := hr.holds
      have Hh := Lib.hid hh
      have Htb := Lib.hid htb
      have Hbe := Lib.hid hbe
      have hsum : Hid (∀ W : World, Below w.heap.size w W → Calls Tryd.prog 11 #[.slice p.ad p.l.length p.cap] W fun e w' => e = .returned (H p.l) ∧ Below W.heap.size W w') := fun W hW => refsum_any W p (Hp.out.below hW) (by omega)
      have heq := eqlH p.l p.l
      rw [show (shaOf p.l == shaOf p.l) = true from beq_self_eq_true _] at heq
      have hgu := fun x y => guardH p.l p.l x y
      clear hr hh htb hbe
      go_wp2_with fail
      refine (sum_any wr w2.heap.size p.l Hh.out Htb.out (by omega)).mono ?_
      rintro e w5 ⟨rfl, hb5⟩
      rw [show (Value.agg ((shaOf p.l).map B).toArray) = H p.l from rfl]
      have hb5' := Hbe.out.trans (hb5.mono Hbe.out.size)
      have Hb5 := Lib.hid hb5'
      clear hb5 hb5'
      dsimp only
      go_wp2_with fail
      refine (hsum.out _ Hb5.out).mono ?_
      rintro e w6 ⟨rfl, hb6⟩
      have hb6' := Hb5.out.trans (hb6.mono Hb5.out.size)
      have Hb6 := Lib.hid hb6'
      clear hb6 hb6'
      dsimp only
      go_wp2_with fail
      go_ret
      exact ⟨rfl, Hb6.out⟩
end Go.Proofs.YtmkgjhnlloalfaaDoor
