/- CodecBad holds: what is bad stays so: nothing comes of it, and all reads as zero (20 parts behind); for every input. -/
import Derived.Test.YtebadbnlihbecaaRows
import Derived.Test.YtebadbnlihbecaaCBadLaw
import Derived.Test.YtebadbnlihbecaaCOpen
import Derived.WalkKit
import Derived.ProofKit
import Derived.OpenShut
import Derived.ShutString
import Derived.Carry
namespace Go.Proofs.Ytebadbnlihbecaa
open Go.RowKit
theorem bad_any (w : World) (ps : List (PartV × List Val)) (ad : Option Addr) (g o cp : Nat) (hl : PList w ad g o ps) (hm : ps.length ≤ maxLen) (ab : Option Addr) (cb : Nat) (l : List UInt8) (hv : BSrc w (.slice ab l.length cb) l) (hn : l.length ≤ maxLen) :
    Calls Try.prog 7 #[.slice ad ps.length cp, .slice ab l.length cb] w fun e w' => e = .returned (.bool true) ∧ Below w.heap.size w w' := by
  cases h : ((ps.take 100).all smallP && decide ((ps.length : Int) ≤ 20)) && decide ((l.length : Int) ≤ 300)
  · exact bad_big w ps ad g o cp hl hm ab l.length cb hn h
  · rw [Bool.and_eq_true] at h
    exact bad_small w ps ad g o cp hl hm ab cb l hv h.1 (by have := of_decide_eq_true h.2; omega)
end Go.Proofs.Ytebadbnlihbecaa
namespace Go.Proofs.Ytebadbnlihbecaa.codecBad
open Go.ChangeShapes Go.WideShapes Go.ChangeAt Go.RowKit

set_option maxRecDepth 100000 in
theorem lifted (os : Os) (started : os.Started) (H : Type) (enc : TypeId × Value → H) :
    ReturnsInHanded {} Try.checked os 7 .any (Rows.codecBadSpec.pre6 enc Try.prog Try.f7 Rows.codecBadRow.domain false) (Rows.codecBadSpec.post enc Try.prog Try.f7 false true false false) := by
  refine returnsInHanded_of_change (C := Try.checked) own started (by kernel_rfl) Try.func7
    (ChangeSpec.witness6 (enc := enc) (C := Try.checked) false ⟨#[], #[.slice none 0 0, .slice none 0 0], []⟩ 8 (by kernel_rfl) (by kernel_rfl) (by kernel_rfl) (by kernel_rfl)) ?_
  intro W base args ds gs before hval0 hW hcnd _
  have hval : ∀ (j : Nat) t v, Try.f7.params[j]? = some t → args[j]? = some v → Value.okWide Try.prog W .any base t v := hval0
  have hW' := hW
  obtain ⟨p, q, hA0, hV, rfl, hfz, hnd⟩ := hW
  have hA : DataW.TrodAll enc Try.prog W 0 (fun _ => true) true Try.f7.params.toList args.toList ds p := hA0
  rw [Try.params7] at hA hval
  obtain ⟨v0, vs0, d0, ds0, p0, q0, hargs, rfl, rfl, h0, r0⟩ := trodAll_cons hA
  obtain ⟨v1, vs1, d1, ds1, p1, q1, rfl, rfl, rfl, h1, r1⟩ := trodAll_cons r0
  obtain ⟨rfl, rfl, rfl⟩ := trodAll_nil r1
  obtain rfl : args = #[v0, v1] := by cases args; simp_all
  obtain ⟨rfl, rfl⟩ := trodVars_none hV
  obtain ⟨a0, len0, cap0, rfl⟩ := okWide_slice Try.underlying22 (hval 0 22 v0 rfl rfl)
  obtain ⟨a1, len1, cap1, rfl⟩ := okWide_slice Try.underlying36 (hval 1 36 v1 rfl rfl)
  have k0 := h0
  have lt0 : ∀ x ∈ p0, x.block < W.heap.size := by obtain ⟨m, hm⟩ := k0; exact DataW.trod_lt m _ _ _ hm
  have k1 := h1
  have lt1 : ∀ x ∈ p1, x.block < W.heap.size := by obtain ⟨m, hm⟩ := k1; exact DataW.trod_lt m _ _ _ hm
  obtain ⟨ps, g, o, rfl, hm, hl⟩ : ∃ (ps : List (PartV × List Val)) (g o : Nat), ps.length = len0 ∧ len0 ≤ maxLen ∧ PList W a0 g o ps := by
    obtain ⟨fuel, hf⟩ := h0
    exact parts_of_trod (by simpa [Value.cells] using hf)
  obtain ⟨l, rfl, hn, hv⟩ : ∃ l : List UInt8, l.length = len1 ∧ len1 ≤ maxLen ∧ BSrc W (.slice a1 l.length cap1) l := by
    obtain ⟨fuel, hf⟩ := h1
    exact bytes_of_trod (by simpa [Value.cells] using hf)
  clear hA0 hval0
  simp only [List.append_nil] at hW'
  refine (bad_any W ps a0 g o cap0 hl hm a1 cap1 l hv hn).mono fun e W' ⟨he, bel⟩ => ?_
  subst he
  exact ⟨_, rfl, _, _, _, [], _, [], hW', trodAll_mk1 (shut_bool Try.underlying4 _), (trodAll_cons_mk (Below.trod laidOut (by kernel_rfl) (of_decide_eq_true (by kernel_rfl)) k0 bel lt0) (trodAll_cons_mk (Below.trod laidOut (by kernel_rfl) (of_decide_eq_true (by kernel_rfl)) k1 bel lt1) trodAll_mk0)), rfl, bel.frame _, fun h => by cases h⟩

theorem proved : Rows.CodecBadSaid :=
  OpenClaim.holds_of_wide 7 Try.f7 rfl rfl rfl rfl rfl rfl rfl ⟨rfl, rfl, rfl, rfl, rfl⟩ rfl rfl rfl rfl rfl (by kernel_rfl) Try.func7 (by kernel_rfl)
    (of_decide_eq_true (by kernel_rfl)) (by unfold Func.isWrapper; first | (rw [if_pos (by decide +kernel)]; kernel_rfl) | (rw [if_neg (by decide +kernel)]; exact ⟨rfl, rfl⟩))
    (fun os started H enc _ => lifted os started H enc)
end Go.Proofs.Ytebadbnlihbecaa.codecBad
namespace Go.Proofs.Ytebadbnlihbecaa
theorem codecBad_holds : Rows.CodecBadSaid := codecBad.proved
end Go.Proofs.Ytebadbnlihbecaa
