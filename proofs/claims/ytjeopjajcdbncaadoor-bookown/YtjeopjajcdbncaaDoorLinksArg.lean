/- A fingerprint that came in. -/
import Derived.Test.YtjeopjajcdbncaaDoorJ19
namespace Go.Proofs.YtjeopjajcdbncaaDoor
open Go.ChangeShapes Go.WideShapes Go.ChangeAt Go.RowKit Go.Deep

set_option maxRecDepth 100000 in
theorem hash_of_arg {H : Type} {enc : TypeId × Value → H} {w : World} {base : Nat} {spare : Nat → Bool} {held : Bool} {r : Reach} {b0 : Nat} {v : Value} {d : DataW H} {p : List MemPlace}
    (hv : Value.okWide Tryd.prog w r b0 40 v) (h : DataW.Trod enc Tryd.prog w base spare held 40 v d p) : ∃ P : List UInt8, P.length = 32 ∧ v = .agg (P.map B).toArray := by
  simp only [Value.okWide, Tryd.underlying40] at hv
  obtain ⟨cs, rfl, hsz, _⟩ := hv
  obtain ⟨fuel, hf⟩ := h
  obtain ⟨xs, m, _, _, hlen, hxl, hel⟩ := DataW.trod_array Tryd.underlying40 hf
  have c32 : Tryd.prog.cellsOf 40 = 32 := by kernel_rfl
  have c1 : Tryd.prog.cellsOf 5 = 1 := by kernel_rfl
  rw [c32] at hsz
  have hcs : (Value.cells (.agg cs)).toList = cs.toList := by simp [Value.cells]
  rw [hcs] at hel
  have hn : ∀ i, i < 32 → ∃ n : Int, cs.toList[i]? = some (.int .u8 n) ∧ 0 ≤ n ∧ n ≤ 255 := by
    intro i hi
    have h1 := hel i hi
    rw [c1, Nat.mul_one, List.getElem?_eq_getElem (by omega)] at h1
    obtain ⟨n, e, _, wn⟩ := DataW.trod_int Tryd.underlying5 h1
    have hb := bounds_u8 wn
    refine ⟨n, ?_, hb.1, hb.2⟩
    have hi' : i < cs.toList.length := by simp; omega
    rw [List.drop_eq_getElem_cons hi'] at e
    simp at e
    rw [List.getElem?_eq_getElem hi']
    simp [e]
  obtain ⟨f, hf'⟩ := choose_lt hn
  refine ⟨(List.range 32).map fun i => UInt8.ofNat (f i).toNat, by simp, ?_⟩
  congr 1
  apply Array.toList_inj.1
  apply List.ext_getElem?
  intro i
  rcases Nat.lt_or_ge i 32 with hi | hi
  · obtain ⟨h1, h2, h3⟩ := hf' i hi
    rw [h1]
    simp [hi]
    omega
  · rw [List.getElem?_eq_none (by simp; omega), List.getElem?_eq_none (by simp; omega)]
end Go.Proofs.YtjeopjajcdbncaaDoor
