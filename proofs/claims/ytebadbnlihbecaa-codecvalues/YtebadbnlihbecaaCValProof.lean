/- CodecValues holds: of all values the bytes are told, and the value of them; no other value has them; for every input. -/
import Derived.Test.YtebadbnlihbecaaRows
import Derived.Test.YtebadbnlihbecaaCValLaw
import Derived.Test.YtebadbnlihbecaaVOpen
import Derived.WalkKit
import Derived.ProofKit
import Derived.OpenShut
import Derived.ShutString
import Derived.Carry
namespace Go.Proofs.Ytebadbnlihbecaa
open Go.RowKit
theorem codecValues_walk (w : World) (x : Val) (lx : List Val) (hx : x.Ok) (hf : Full w x lx) (hl : ∀ y ∈ lx, y.Ok) (y : Val) (ly : List Val) (hy : y.Ok) (hg : Full w y ly) (hm : ∀ y ∈ ly, y.Ok) :
    Calls Try.prog 5 #[x.v, y.v] w fun e w' => e = .returned (.bool true) ∧ Below w.heap.size w w' :=
  values_any w x y lx ly hf hg ⟨hx.i1, hx.i2⟩ ⟨hy.i1, hy.i2⟩ (fun z hz => ⟨(hl z hz).i1, (hl z hz).i2⟩) (fun z hz => ⟨(hm z hz).i1, (hm z hz).i2⟩)
end Go.Proofs.Ytebadbnlihbecaa
namespace Go.Proofs.Ytebadbnlihbecaa.codecValues
open Go.ChangeShapes Go.WideShapes Go.ChangeAt Go.RowKit

set_option maxRecDepth 100000 in
theorem lifted (os : Os) (started : os.Started) (H : Type) (enc : TypeId × Value → H) :
    ReturnsInHanded {} Try.checked os 5 .any (Rows.codecValuesSpec.pre6 enc Try.prog Try.f5 Rows.codecValuesRow.domain false) (Rows.codecValuesSpec.post enc Try.prog Try.f5 false true false false) := by
  refine returnsInHanded_of_change (C := Try.checked) own started (by kernel_rfl) Try.func5
    (ChangeSpec.witness6 (enc := enc) (C := Try.checked) false ⟨#[], #[.agg #[.int .i64 0, .int .i64 0, .string ByteArray.empty, .slice none 0 0], .agg #[.int .i64 0, .int .i64 0, .string ByteArray.empty, .slice none 0 0]], []⟩ 8 (by kernel_rfl) (by kernel_rfl) (by kernel_rfl) (by kernel_rfl)) ?_
  intro W base args ds gs before hval0 hW hcnd _
  have hval : ∀ (j : Nat) t v, Try.f5.params[j]? = some t → args[j]? = some v → Value.okWide Try.prog W .any base t v := hval0
  have hW' := hW
  obtain ⟨p, q, hA0, hV, rfl, hfz, hnd⟩ := hW
  have hA : DataW.TrodAll enc Try.prog W 0 (fun _ => true) true Try.f5.params.toList args.toList ds p := hA0
  rw [Try.params5] at hA hval
  obtain ⟨v0, vs0, d0, ds0, p0, q0, hargs, rfl, rfl, h0, r0⟩ := trodAll_cons hA
  obtain ⟨v1, vs1, d1, ds1, p1, q1, rfl, rfl, rfl, h1, r1⟩ := trodAll_cons r0
  obtain ⟨rfl, rfl, rfl⟩ := trodAll_nil r1
  obtain rfl : args = #[v0, v1] := by cases args; simp_all
  obtain ⟨rfl, rfl⟩ := trodVars_none hV
  have k0 := h0
  have lt0 : ∀ x ∈ p0, x.block < W.heap.size := by obtain ⟨m, hm⟩ := k0; exact DataW.trod_lt m _ _ _ hm
  obtain ⟨x0, l0, rfl, ok0, fu0, al0⟩ := full_of_arg (hval 0 33 v0 rfl rfl) h0
  have k1 := h1
  have lt1 : ∀ x ∈ p1, x.block < W.heap.size := by obtain ⟨m, hm⟩ := k1; exact DataW.trod_lt m _ _ _ hm
  obtain ⟨x1, l1, rfl, ok1, fu1, al1⟩ := full_of_arg (hval 1 33 v1 rfl rfl) h1
  clear hA0 hval0
  simp only [List.append_nil] at hW'
  refine (codecValues_walk W x0 l0 ok0 fu0 al0 x1 l1 ok1 fu1 al1).mono fun e W' ⟨he, bel⟩ => ?_
  subst he
  exact ⟨_, rfl, _, _, _, [], _, [], hW', trodAll_mk1 (shut_bool Try.underlying4 _), (trodAll_cons_mk (Below.trod laidOut (by kernel_rfl) (of_decide_eq_true (by kernel_rfl)) k0 bel lt0) (trodAll_cons_mk (Below.trod laidOut (by kernel_rfl) (of_decide_eq_true (by kernel_rfl)) k1 bel lt1) trodAll_mk0)), rfl, bel.frame _, fun h => by cases h⟩

theorem proved : Rows.CodecValuesSaid :=
  OpenClaim.holds_of_wide 5 Try.f5 rfl rfl rfl rfl rfl rfl rfl ⟨rfl, rfl, rfl, rfl, rfl⟩ rfl rfl rfl rfl rfl (by kernel_rfl) Try.func5 (by kernel_rfl)
    (of_decide_eq_true (by kernel_rfl)) (by unfold Func.isWrapper; first | (rw [if_pos (by decide +kernel)]; kernel_rfl) | (rw [if_neg (by decide +kernel)]; exact ⟨rfl, rfl⟩))
    (fun os started H enc _ => lifted os started H enc)
end Go.Proofs.Ytebadbnlihbecaa.codecValues
namespace Go.Proofs.Ytebadbnlihbecaa
theorem codecValues_holds : Rows.CodecValuesSaid := codecValues.proved
end Go.Proofs.Ytebadbnlihbecaa
