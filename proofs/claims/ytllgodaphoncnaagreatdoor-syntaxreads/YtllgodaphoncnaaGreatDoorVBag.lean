/- P2.1, the bags: which values can be in one bag. -/
import Derived.Test.YtllgodaphoncnaaGreatDoorJ01
import Derived.Test.YtllgodaphoncnaaGreatDoorJ06
namespace Go.Proofs.YtllgodaphoncnaaGreatDoor
open Go.RowKit

/-- may a value of this kind be in one bag with h? -/
def kindOk (h x : Val) : Bool := !(x.k == 0) && (!(x.k == 5) && x.k == h.k)
/-- the error of values that can't be in one bag -/
def mayB (l : List Val) (F : Nat → Bool) : Int := if (List.range l.length).all F then (if (List.range l.length).all (fun j => kindOk l[0]! l[j]!) then 0 else 6) else 1
set_option maxRecDepth 100000 in
theorem mayB_arg {l : List Val} {F : Nat → Bool} {j : Nat} (hj : j < l.length) (h : F j = false) : (1 : Int) = mayB l F := by
  have : (List.range l.length).all F = false := by
    rw [List.all_eq_false]; exact ⟨j, by simpa using hj, by simp [h]⟩
  rw [mayB, this]; rfl
set_option maxRecDepth 100000 in
theorem mayB_type {l : List Val} {F : Nat → Bool} {j : Nat} (hF : ∀ j, j < l.length → F j = true) (hj : j < l.length) (h : kindOk l[0]! l[j]! = false) : (6 : Int) = mayB l F := by
  have h1 : (List.range l.length).all F = true := by rw [List.all_eq_true]; intro x hx; exact hF x (by simpa using hx)
  have h2 : (List.range l.length).all (fun j => kindOk l[0]! l[j]!) = false := by
    rw [List.all_eq_false]; exact ⟨j, by simpa using hj, by simp only [h]; decide⟩
  rw [mayB, h1, h2]; rfl
set_option maxRecDepth 100000 in
theorem mayB_yes {l : List Val} {F : Nat → Bool} (hF : ∀ j, j < l.length → F j = true) (h : ∀ j, j < l.length → kindOk l[0]! l[j]! = true) : (0 : Int) = mayB l F := by
  have h1 : (List.range l.length).all F = true := by rw [List.all_eq_true]; intro x hx; exact hF x (by simpa using hx)
  have h2 : (List.range l.length).all (fun j => kindOk l[0]! l[j]!) = true := by rw [List.all_eq_true]; intro x hx; exact h x (by simpa using hx)
  rw [mayB, h1, h2]; rfl

set_option maxRecDepth 100000 in
set_option maxHeartbeats 1000000 in
theorem mayBag_any (w : World) (l : List Val) (ad : Option Addr) (g o cp : Nat) (F : Nat → Bool) (hl : ListAt w ad g o l) (hm : l.length ≤ maxLen) (hF : ∀ j, (h : j < l.length) → FormedIs w l[j].v (F j)) :
    Calls Tryz.prog 166 #[.slice ad l.length cp] w fun e w' => e = .returned (.int .i64 (mayB l F)) ∧ Below w.heap.size w w' := by
  have hm' := hm
  unfold maxLen at hm'
  have HL := Lib.hid hl
  have HF := Lib.hid hF
  clear hl hm hF
  go_enter Tryz.func166, Tryz.ntmps166
  go_wp2_with fail
  go_loopw [9] (fun i wr => ∃ k : Nat, k ≤ l.length ∧ i = .int .i64 k ∧ Hid (∀ j, j < k → F j = true) ∧ Below w.heap.size w wr) (fun i _ => l.length - (intOf i).toNat)
  case atStart => exact ⟨0, by omega, rfl, Lib.hid (fun j hj => by omega), Below.refl _ _⟩
  case round =>
    obtain ⟨k, hk, rfl, HA, hbw⟩ := hrel
    have HB := Lib.hid hbw
    clear hbw
    by_cases hlt : k < l.length
    · obtain rfl := HL.out.at' (by intro e; subst e; simp at hlt)
      have hlw := HL.out.below HB.out
      have c0 := hlw.c0 k hlt
      have c1 := hlw.c1 k hlt
      have c2 := hlw.c2 k hlt
      have c3 := hlw.c3 k hlt
      have HFk := Lib.hid (HF.out k hlt)
      generalize l[k] = x at *
      unfold Val.v at HFk
      clear hlw
      go_wp2_with fail
      refine (HFk.out.call _ (HB.out.alloc HB.out.size _)).mono ?_
      rintro e w1 ⟨rfl, hb1⟩
      have HB1 := Lib.hid ((HB.out.alloc HB.out.size _).trans (hb1.mono (HB.out.alloc HB.out.size _).size))
      clear hb1 HFk c0 c1 c2 c3
      cases hFk : F k
      · go_wp2_with fail
        go_ret
        exact ⟨vret_int (mayB_arg hlt hFk), HB1.out⟩
      · have HFk := Lib.hid hFk
        clear hFk
        go_wp2_with fail
        go_roundw
        case rel => exact ⟨k + 1, by omega, by go_num, Lib.hid (ext_ok HA.out HFk.out), HB1.out⟩
        case measure => simp [intOf]; omega
    · obtain rfl : k = l.length := by omega
      have HB0 := HB
      clear HB
      go_wp2_with fail
      go_loopw [19] (fun i wr => ∃ k : Nat, k ≤ l.length ∧ i = .int .i64 k ∧ Hid (∀ j, j < k → kindOk l[0]! l[j]! = true) ∧ Below w.heap.size w wr) (fun i _ => l.length - (intOf i).toNat)
      case atStart => exact ⟨0, by omega, rfl, Lib.hid (fun j hj => by omega), HB0.out⟩
      clear HB0 hlt hk
      case round =>
        obtain ⟨k, hk, rfl, HK, hbw⟩ := hrel
        have HB := Lib.hid hbw
        clear hbw
        by_cases hlt : k < l.length
        · obtain rfl := HL.out.at' (by intro e; subst e; simp at hlt)
          have hlw := HL.out.below HB.out
          obtain ⟨x, hX⟩ : ∃ x, l[k]! = x := ⟨_, rfl⟩
          obtain ⟨h, hH⟩ : ∃ h, l[0]! = h := ⟨_, rfl⟩
          have e : x = l[k] := by rw [← hX]; exact getElem!_pos l k hlt
          have c0 := hlw.c0 k hlt
          have c1 := hlw.c1 k hlt
          have c2 := hlw.c2 k hlt
          have c3 := hlw.c3 k hlt
          rw [← e] at c0 c1 c2 c3
          have HX := Lib.hid hX
          have HH := Lib.hid hH
          clear e hlw hX hH
          go_wp2_with fail
          clear c0 c1 c2 c3
          generalize hW : World.alloc _ _ = W
          have hbW : Below w.heap.size w W := by rw [← hW]; exact HB.out.alloc HB.out.size _
          have hblk : W.heap[wr.heap.size]? = some (.cells #[.int .i64 x.k, .int .i64 x.i, .string x.s, .slice x.a x.n x.c] 24 (0, 0)) := by rw [← hW]; exact heap_alloc_new _ _
          have HBW := Lib.hid hbW
          have p0 := fun m : Bl W => (cells4 hblk m).1
          have q0 := fun m : Bl W => (HL.out.cells hbW 0 (by omega) m).1
          rw [HH.out] at q0
          simp only [Nat.zero_mul, Nat.add_zero] at q0
          clear hW hbW hblk
          cases hx0 : x.k == 0
          case true =>
            refine wp_region_quietB (by kernel_rfl) (by kernel_rfl) ?_
            iterate 17 (go_big_quiet_step (fail))
            refine wpQuiet_nil ?_
            intro m
            have HBM := Lib.hid (HBW.out.trans (m.below.mono HBW.out.size))
            clear p0 q0
            go_wp2_with fail
            go_ret
            exact ⟨vret_int (mayB_type HA.out hlt (by rw [HX.out, HH.out]; simp [kindOk, hx0])), HBM.out⟩
          cases hx5 : x.k == 5
          case true =>
            refine wp_region_quietB (by kernel_rfl) (by kernel_rfl) ?_
            iterate 17 (go_big_quiet_step (fail))
            refine wpQuiet_nil ?_
            intro m
            have HBM := Lib.hid (HBW.out.trans (m.below.mono HBW.out.size))
            clear p0 q0
            go_wp2_with fail
            go_ret
            exact ⟨vret_int (mayB_type HA.out hlt (by rw [HX.out, HH.out]; simp [kindOk, hx5])), HBM.out⟩
          cases hxh : x.k != h.k
          case true =>
            refine wp_region_quietB (by kernel_rfl) (by kernel_rfl) ?_
            iterate 17 (go_big_quiet_step (fail))
            refine wpQuiet_nil ?_
            intro m
            have HBM := Lib.hid (HBW.out.trans (m.below.mono HBW.out.size))
            clear p0 q0
            go_wp2_with fail
            go_ret
            exact ⟨vret_int (mayB_type HA.out hlt (by rw [HX.out, HH.out]; simp [kindOk, show (x.k == h.k) = false by simpa using hxh])), HBM.out⟩
          refine wp_region_quietB (by kernel_rfl) (by kernel_rfl) ?_
          iterate 17 (go_big_quiet_step (fail))
          refine wpQuiet_nil ?_
          intro m
          have HBM := Lib.hid (HBW.out.trans (m.below.mono HBW.out.size))
          clear p0 q0
          go_wp2_with fail
          go_roundw
          case rel => exact ⟨k + 1, by omega, by go_num, Lib.hid (ext_ok HK.out (by rw [HX.out, HH.out]; simp [kindOk, hx0, hx5, show (x.k == h.k) = true by simpa using hxh])), HBM.out⟩
          case measure => simp [intOf]; omega
        · obtain rfl : k = l.length := by omega
          go_wp2_with fail
          go_ret
          exact ⟨vret_int (mayB_yes HA.out HK.out), HB.out⟩
end Go.Proofs.YtllgodaphoncnaaGreatDoor
