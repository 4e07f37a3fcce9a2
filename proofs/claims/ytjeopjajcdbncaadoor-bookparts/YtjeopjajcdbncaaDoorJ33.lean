/- BookParts; A fingerprint that came in. -/
import Derived.Test.YtjeopjajcdbncaaDoorJ32
import Derived.Test.YtjeopjajcdbncaaDoorJ19
namespace Go.Proofs.YtjeopjajcdbncaaDoor
open Go.RowKit

set_option maxRecDepth 100000 in
set_option maxHeartbeats 2000000 in
theorem bookParts_walk (w : World) (ht : Tab w) (n : Int) (hn : (Lit.int .i64 n).wf = true) : Calls Tryd.prog 5 #[.int .i64 n] w fun e w' => e = .returned (.bool true) ∧ Below w.heap.size w w' := by
  have hn' : n ≤ 9223372036854775807 := by
    have := hn
    simp [Lit.wf] at this
    exact this.2
  have HA := Lib.hid (awake_any w ht)
  have HPa := Lib.hid (fun W => parts_any W n hn')
  clear hn ht
  go_enter Tryd.func5, Tryd.ntmps5
  go_wp2_with fail
  refine HA.out.mono ?_
  rintro e w1 ⟨rfl, hb1⟩
  have HB1 := Lib.hid hb1
  clear hb1 HA
  by_cases h1 : n < 0
  · have hd : decide (n < 0) = true := by simpa using h1
    have hd2 : decide (0 < n) = false := by simp; omega
    have hp : partsI n = 0 := by unfold partsI; rw [if_pos h1]
    rw [hp] at HPa
    clear hp
    go_wp2_with fail
    refine (HPa.out w1).mono ?_
    rintro e w2 ⟨rfl, rfl⟩
    go_wp2_with fail
    go_ret
    exact ⟨rfl, HB1.out⟩
  · have hd : decide (n < 0) = false := by simpa using h1
    by_cases h2 : 100000 < n
    · have hd2 : decide (100000 < n) = true := by simpa using h2
      have hd3 : decide (0 < n) = true := by simp; omega
      go_wp2_with fail
      go_ret
      exact ⟨rfl, HB1.out⟩
    · have hd2 : decide (100000 < n) = false := by simpa using h2
      obtain ⟨m, rfl⟩ : ∃ m : Nat, n = (m : Int) := ⟨n.toNat, by omega⟩
      rw [partsI_nat] at HPa
      have hmk := fun w => make_bytes m (by omega) w
      have HCut := Lib.hid (fun W ad => refCut_any W ad m m (Nat.le_refl _) (by omega))
      obtain ⟨M, hM⟩ : ∃ M, nParts m = M := ⟨_, rfl⟩
      rw [hM] at HPa HCut
      clear hM
      obtain ⟨Z, hZ⟩ : ∃ Z, ((List.replicate m (0 : UInt8)).map B).toArray = Z := ⟨_, rfl⟩
      simp only [hZ] at hmk
      clear hZ
      go_wp2_with fail
      go_region_with (first
        | (go_at_call 25; refine (HPa.out _).mono ?_; rintro e wa ⟨rfl, rfl⟩; dsimp only)
        | (go_at_call 11; refine (HCut.out _ _).mono ?_; rintro e wb ⟨a, c, rfl, hbb⟩; dsimp only))
      all_goals go_wp2_with fail
      all_goals go_ret
      all_goals refine ⟨rfl, HB1.out.trans ((Below.trans ?_ (hbb.mono ?_)).mono HB1.out.size)⟩
      all_goals first
        | (simp; done)
        | (repeat (first | exact Below.refl _ _ | refine Below.drew ?_ | refine Below.alloc ?_ (Nat.le_refl _) _ | refine Below.alloc ?_ (by simp) _))
end Go.Proofs.YtjeopjajcdbncaaDoor
namespace Go.Proofs.YtjeopjajcdbncaaDoor
open Go.ChangeShapes Go.WideShapes Go.ChangeAt Go.RowKit Go.Deep

set_option maxRecDepth 100000 in
theorem hash_of_arg {H : Type} {enc : TypeId × Value → H} {w : World} {base : Nat} {spare : Nat → Bool} {held : Bool} {r : Reach} {b0 : Nat} {v : Value} {d : DataW H} {p : List MemPlace}
    (hv : Value.okWide Tryd.prog w r b0 40 v) (h : DataW.Trod enc Tryd.prog w base spare held 40 v d p) : ∃ P : List UInt8, P.length = 32 ∧ v = .agg (P.map B).toArray := by
  simp only [Value.okWide, Tryd.underlying40] at hv
  obtain ⟨cs, rfl, hsz, _⟩ := hv
  obtain ⟨fuel, hf⟩ := h
  obtain ⟨xs, m, _, _, hlen, hxl, hel⟩ := DataW.trod_array Tryd.underlying40 hf
  have c32 : Tryd.prog.cellsOf 40 = 32 := by kernel_rfl
  have c1 : Tryd.prog.cellsOf 5 = 1 := by kernel_rfl
  rw [c32] at hsz
  have hcs : (Value.cells (.agg cs)).toList = cs.toList := by simp [Value.cells]
  rw [hcs] at hel
  have hn : ∀ i, i < 32 → ∃ n : Int, cs.toList[i]? = some (.int .u8 n) ∧ 0 ≤ n ∧ n ≤ 255 := by
    intro i hi
    have h1 := hel i hi
    rw [c1, Nat.mul_one, List.getElem?_eq_getElem (by omega)] at h1
    obtain ⟨n, e, _, wn⟩ := DataW.trod_int Tryd.underlying5 h1
    have hb := bounds_u8 wn
    refine ⟨n, ?_, hb.1, hb.2⟩
    have hi' : i < cs.toList.length := by simp; omega
    rw [List.drop_eq_getElem_cons hi'] at e
    simp at e
    rw [List.getElem?_eq_getElem hi']
    simp [e]
  obtain ⟨f, hf'⟩ := choose_lt hn
  refine ⟨(List.range 32).map fun i => UInt8.ofNat (f i).toNat, by simp, ?_⟩
  congr 1
  apply Array.toList_inj.1
  apply List.ext_getElem?
  intro i
  rcases Nat.lt_or_ge i 32 with hi | hi
  · obtain ⟨h1, h2, h3⟩ := hf' i hi
    rw [h1]
    simp [hi]
    omega
  · rw [List.getElem?_eq_none (by simp; omega), List.getElem?_eq_none (by simp; omega)]
end Go.Proofs.YtjeopjajcdbncaaDoor
