/- CodecWrites holds: of all parts the bytes are the chapter's, or they are bad; what is written is read as it was (30 parts); for every input. -/
import Derived.Test.YtebadbnlihbecaaRows
import Derived.Test.YtebadbnlihbecaaCWLaw
import Derived.Test.YtebadbnlihbecaaCOpen
import Derived.WalkKit
import Derived.ProofKit
import Derived.OpenShut
import Derived.ShutString
import Derived.Carry
namespace Go.Proofs.Ytebadbnlihbecaa
open Go.RowKit
theorem writes_any (w : World) (ps : List (PartV × List Val)) (ad : Option Addr) (g o cp : Nat) (hl : PList w ad g o ps) (hm : ps.length ≤ maxLen) (hi : ∀ p ∈ ps, IOk p.1.v ∧ ∀ y ∈ p.2, IOk y) :
    Calls Try.prog 3 #[.slice ad ps.length cp] w fun e w' => e = .returned (.bool true) ∧ Below w.heap.size w w' := by
  cases h : ((ps.take 100).all smallP && decide ((ps.length : Int) ≤ 30))
  · exact writes_big w ps ad g o cp hl hm h
  · refine writes_small w ps ad g o cp hl hm (fun p hp => ?_) h
    rw [Bool.and_eq_true] at h
    have h30 := of_decide_eq_true h.2
    rw [List.take_of_length_le (by omega)] at h
    have hs := List.all_eq_true.1 h.1 p hp
    unfold smallP at hs
    rw [Bool.and_eq_true] at hs
    exact ⟨hl.ok p hp, by simpa using hs.1, hl.full p hp, (hi p hp).1, (hi p hp).2⟩
end Go.Proofs.Ytebadbnlihbecaa
namespace Go.Proofs.Ytebadbnlihbecaa.codecWrites
open Go.ChangeShapes Go.WideShapes Go.ChangeAt Go.RowKit

set_option maxRecDepth 100000 in
theorem lifted (os : Os) (started : os.Started) (H : Type) (enc : TypeId × Value → H) :
    ReturnsInHanded {} Try.checked os 3 .any (Rows.codecWritesSpec.pre6 enc Try.prog Try.f3 Rows.codecWritesRow.domain false) (Rows.codecWritesSpec.post enc Try.prog Try.f3 false true false false) := by
  refine returnsInHanded_of_change (C := Try.checked) own started (by kernel_rfl) Try.func3
    (ChangeSpec.witness6 (enc := enc) (C := Try.checked) false ⟨#[], #[.slice none 0 0], []⟩ 8 (by kernel_rfl) (by kernel_rfl) (by kernel_rfl) (by kernel_rfl)) ?_
  intro W base args ds gs before hval0 hW hcnd _
  have hval : ∀ (j : Nat) t v, Try.f3.params[j]? = some t → args[j]? = some v → Value.okWide Try.prog W .any base t v := hval0
  have hW' := hW
  obtain ⟨p, q, hA0, hV, rfl, hfz, hnd⟩ := hW
  have hA : DataW.TrodAll enc Try.prog W 0 (fun _ => true) true Try.f3.params.toList args.toList ds p := hA0
  rw [Try.params3] at hA hval
  obtain ⟨v0, vs0, d0, ds0, p0, q0, hargs, rfl, rfl, h0, r0⟩ := trodAll_cons hA
  obtain ⟨rfl, rfl, rfl⟩ := trodAll_nil r0
  obtain rfl : args = #[v0] := by cases args; simp_all
  obtain ⟨rfl, rfl⟩ := trodVars_none hV
  obtain ⟨a0, len0, cap0, rfl⟩ := okWide_slice Try.underlying22 (hval 0 22 v0 rfl rfl)
  have k0 := h0
  have lt0 : ∀ x ∈ p0, x.block < W.heap.size := by obtain ⟨m, hm⟩ := k0; exact DataW.trod_lt m _ _ _ hm
  obtain ⟨ps, g, o, rfl, hm, hl, hi⟩ : ∃ (ps : List (PartV × List Val)) (g o : Nat), ps.length = len0 ∧ len0 ≤ maxLen ∧ PList W a0 g o ps ∧ ∀ p ∈ ps, IOk p.1.v ∧ ∀ y ∈ p.2, IOk y := by
    obtain ⟨fuel, hf⟩ := h0
    exact parts_of_trod2 (by simpa [Value.cells] using hf)
  clear hA0 hval0
  simp only [List.append_nil] at hW'
  refine (writes_any W ps a0 g o cap0 hl hm hi).mono fun e W' ⟨he, bel⟩ => ?_
  subst he
  exact ⟨_, rfl, _, _, _, [], _, [], hW', trodAll_mk1 (shut_bool Try.underlying4 _), (trodAll_cons_mk (Below.trod laidOut (by kernel_rfl) (of_decide_eq_true (by kernel_rfl)) k0 bel lt0) trodAll_mk0), rfl, bel.frame _, fun h => by cases h⟩

theorem proved : Rows.CodecWritesSaid :=
  OpenClaim.holds_of_wide 3 Try.f3 rfl rfl rfl rfl rfl rfl rfl ⟨rfl, rfl, rfl, rfl, rfl⟩ rfl rfl rfl rfl rfl (by kernel_rfl) Try.func3 (by kernel_rfl)
    (of_decide_eq_true (by kernel_rfl)) (by unfold Func.isWrapper; first | (rw [if_pos (by decide +kernel)]; kernel_rfl) | (rw [if_neg (by decide +kernel)]; exact ⟨rfl, rfl⟩))
    (fun os started H enc _ => lifted os started H enc)
end Go.Proofs.Ytebadbnlihbecaa.codecWrites
namespace Go.Proofs.Ytebadbnlihbecaa
theorem codecWrites_holds : Rows.CodecWritesSaid := codecWrites.proved
end Go.Proofs.Ytebadbnlihbecaa
