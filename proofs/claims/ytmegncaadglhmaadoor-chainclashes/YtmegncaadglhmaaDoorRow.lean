/- Bytes that came in, and the table of constants, out of the row's own words. -/
import Derived.Test.YtmegncaadglhmaaDoorOf
import Derived.ProofKit
import Derived.OpenShut
import Derived.ShutString
import Derived.ChangeOld
import Derived.Below
import Derived.Deep.DeepHandedRow
import Derived.Lib.LaidTab
namespace Go.Proofs.YtmegncaadglhmaaDoor
open Go.ChangeShapes Go.WideShapes Go.ChangeAt Go.RowKit

theorem own : ownKnob Tryd.prog.godebug = none := by kernel_rfl
theorem laidOut : laidOutB Tryd.prog = true := by kernel_rfl
theorem gTab : Tryd.prog.globalNamed "gatepost/sha.rounds" = some 0 := by kernel_rfl
theorem gTabType : (Tryd.prog.globals[0]?).map (·.type) = some 93 := by kernel_rfl
theorem cellsTab : Tryd.prog.cellsOf 93 = 64 := by kernel_rfl
theorem cellsU32 : Tryd.prog.cellsOf 64 = 1 := by kernel_rfl
theorem laid_eq : (Rows.laid_gatepost_sha_rounds : DataW Unit) = Lib.tabData .u32 (consts.map fun x => (x.toNat : Int)) := by kernel_rfl
/-- what the row's list gives -/
theorem tab_of {W : World} (h : laidMetH Tryd.prog [("gatepost/sha.rounds", Rows.laid_gatepost_sha_rounds)] W) : Tab W := by
  have h' : Lib.TabIs Tryd.prog W "gatepost/sha.rounds" .u32 (consts.map fun x => (x.toNat : Int)) :=
    Lib.tabIs_of_head (rest := []) gTab gTabType Tryd.underlying93 Tryd.underlying64 cellsU32 cellsTab (by rw [← laid_eq]; exact h)
  intro k hk
  have hl : consts.length = 64 := rfl
  rw [h'.cell gTab k (by simpa [hl] using hk)]
  simp [List.getD, hl, hk]

/-- a slice of bytes that came in: nil, or a row of numbers -/
def IsRow (w : World) (a : Option Addr) (len cap : Nat) (zs : List Int) : Prop :=
  (a = none ∧ len = 0 ∧ cap = 0 ∧ zs = []) ∨
  ∃ x, a = some x ∧ len ≤ cap ∧ cap ≤ maxLen ∧ zs.length = cap ∧ (∀ i, i < zs.length → w.cell? (x.add i) = some (.int .u8 (zs.getD i 0))) ∧ ∀ n ∈ zs, (Lit.int .u8 n).wf = true

theorem part_of_row {w : World} {a : Option Addr} {len cap : Nat} {zs : List Int} (h0 : 0 < w.heap.size) (h : IsRow w a len cap zs) : ∃ p : Part, p.val = .slice a len cap ∧ p.In w ∧ p.l.length = len := by
  rcases h with ⟨rfl, rfl, rfl, rfl⟩ | ⟨x, rfl, hl, hm, hz, hc, hw⟩
  · exact ⟨⟨none, 0, 0, 0, []⟩, rfl, ⟨⟨fun h => absurd rfl h, fun j hj => by cases hj⟩, Nat.le_refl _, h0⟩, rfl⟩
  · rcases Nat.eq_zero_or_pos len with rfl | hpos
    · exact ⟨⟨some x, 0, 0, cap, []⟩, rfl, ⟨⟨fun h => absurd rfl h, fun j hj => by cases hj⟩, hl, h0⟩, rfl⟩
    · obtain ⟨b, off, rfl, hc'⟩ := ints_at hc (by omega)
      have hlen : ((zs.take len).map fun z => UInt8.ofNat z.toNat).length = len := by simp; omega
      refine ⟨⟨some ⟨b, off, none⟩, b, off, cap, (zs.take len).map fun z => UInt8.ofNat z.toNat⟩, by simp only [Part.val, hlen], ⟨⟨fun _ => rfl, fun j hj => ?_⟩, by rw [hlen]; exact hl, block_lt_of_cell (hc' 0 (by omega))⟩, hlen⟩
      have hj' : j < len := by rw [← hlen]; exact hj
      rw [hc' j (by omega)]
      have hb := bounds_u8 (hw zs[j] (List.getElem_mem (by omega)))
      congr 1
      show Value.int .u8 (zs.getD j 0) = Value.int .u8 _
      congr 1
      simp [List.getD, show j < zs.length by omega]
      omega
end Go.Proofs.YtmegncaadglhmaaDoor
