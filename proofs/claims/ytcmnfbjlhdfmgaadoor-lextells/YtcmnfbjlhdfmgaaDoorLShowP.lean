/- Show. -/
import Derived.Test.YtcmnfbjlhdfmgaaDoorLShow3
namespace Go.Proofs.YtcmnfbjlhdfmgaaDoor
open Go.RowKit

def shM (t : Tk) : List UInt8 := if formB t then showM t else []
set_option maxRecDepth 100000 in
theorem show_any (w : World) (hw : LexW w) (t : Tk) (ht : t.Ok) (hts : t.s.length ≤ 10000) (h9 : 9 ≤ w.heap.size) :
    Calls Tryd.prog 13 #[t.val] w fun e w' => e = .returned (.string (st (shM t))) ∧ Below w.heap.size w w' := by
  have HA := Lib.hid (fun w hw N v l hown hN h9 hl => appendShown_any w hw N v l t ht hts hown hN h9 hl)
  have HW := Lib.hid hw
  unfold shM
  obtain ⟨R, hR⟩ : ∃ R, (if formB t = true then showM t else []) = R := ⟨_, rfl⟩
  rw [hR] at HA ⊢
  clear hR hw
  have HB := Lib.hid (fun (o : Obj) => ((Below.refl w.heap.size w).alloc (Nat.le_refl _) o))
  obtain ⟨k, x, n⟩ := t
  unfold Tk.val Tk.cells at *
  dsimp only at *
  clear ht hts
  go_enter Tryd.func13, Tryd.ntmps13
  go_wp2_with fail
  refine (HA.out _ (HW.out.below (HB.out _)) w.heap.size _ [] (OwnY.nil _ _) (by simp) h9 (by simp)).mono ?_
  rintro e w2 ⟨v2, rfl, hown2, hb2⟩
  have hcv := hown2.conv
  have HB2 := Lib.hid ((HB.out _).trans hb2)
  clear hown2 hb2
  go_wp2_with fail
  go_ret
  exact ⟨rfl, HB2.out⟩
end Go.Proofs.YtcmnfbjlhdfmgaaDoor
