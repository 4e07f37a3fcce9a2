/- Tokens written: the program's way. -/
import Derived.Test.YtcmnfbjlhdfmgaaDoorLLex
namespace Go.Proofs.YtcmnfbjlhdfmgaaDoor
open Go.RowKit

/-- a text between quotes, marked -/
def quoL : List UInt8 → List UInt8
  | [] => []
  | c :: l => if mrkB c then 92 :: c :: quoL l else c :: quoL l
def quoteM (l : List UInt8) : List UInt8 := 34 :: (quoL l ++ [34])
/-- the text of a token -/
def showM (t : Tk) : List UInt8 :=
  if t.k = 2 then Lib.itoa t.n
  else if t.k = 4 then 64 :: Lib.itoa t.n
  else if t.k = 3 then quoteM t.s
  else t.s
set_option maxRecDepth 100000 in
theorem length_quoL (l : List UInt8) : (quoL l).length ≤ 2 * l.length := by
  induction l with
  | nil => simp [quoL]
  | cons c l ih => rw [quoL]; split <;> simp <;> omega
set_option maxRecDepth 100000 in
theorem quoL_snoc (l : List UInt8) (c : UInt8) : quoL (l ++ [c]) = quoL l ++ (if mrkB c then [92, c] else [c]) := by
  induction l with
  | nil => simp [quoL]
  | cons a l ih =>
    rw [List.cons_append, quoL, quoL, ih]
    split <;> simp
set_option maxRecDepth 100000 in
theorem cells_bytes (l : List UInt8) : Lib.byteCells l = l.map B := rfl
set_option maxRecDepth 100000 in
/-- a number behind bytes of one's own -/
theorem appendInt_any (w : World) (hw : LexW w) (N : Nat) (v : Value) (l : List UInt8) (n : Int) (h0 : -9223372036854775808 ≤ n) (h1 : n ≤ 9223372036854775807) (hown : OwnY w N v l) (hN : N ≤ w.heap.size) (hN0 : 9 ≤ N) (hlen : l.length ≤ 1000000) :
    Calls Tryd.prog 47 #[v, .int .i64 n, .int .i64 10] w fun e w' => ∃ v', e = .returned v' ∧ OwnY w' N v' (l ++ Lib.itoa n) ∧ Below N w w' ∧ Lib.OthersKept 5 none w w' := by
  have htab : Lib.TabBelow Tryd.prog N w "internal/strconv.uint64pow10" .u64 Lib.pow10Tab := fun w' hb => by
    have h := hw.pow
    unfold Lib.TabIs World.var? at *
    have hg : Tryd.prog.globalNamed "internal/strconv.uint64pow10" = some 4 := by kernel_rfl
    rw [hg] at h ⊢
    have hblk := hb.block 4 (by omega)
    simp only [Option.bind_some] at h ⊢
    rw [hblk]; exact h
  refine (Any.strconv_AppendInt_10 laysM176 N l.length n h0 h1 v (l.map B) w hown.row hN (by omega) htab).mono ?_
  rintro e w' ⟨v', rfl, ho, hb, hk⟩
  refine ⟨v', rfl, ⟨?_⟩, hb, hk⟩
  rw [List.length_append, List.map_append]
  exact ho
end Go.Proofs.YtcmnfbjlhdfmgaaDoor
