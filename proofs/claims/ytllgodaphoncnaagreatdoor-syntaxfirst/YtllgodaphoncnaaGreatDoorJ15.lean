/- P2.1, the bags: the program's Bag; Expressions of policies, as plain functions: the reader, and what each level of binding reads. -/
import Derived.Test.YtllgodaphoncnaaGreatDoorJ14
import Derived.Test.YtllgodaphoncnaaGreatDoorJ01
namespace Go.Proofs.YtllgodaphoncnaaGreatDoor
open Go.RowKit

set_option maxRecDepth 100000 in
theorem place_le (h : List Val) (t : Val) : place h t ≤ h.length := List.findIdx_le_length
set_option maxRecDepth 100000 in
theorem step_ge (h : List Val) (t : Val) : h.length ≤ (bagStep h t).length := by
  rw [length_step h t (place_le h t)]; split <;> omega
set_option maxRecDepth 100000 in
theorem fold_ge (l : List Val) : ∀ h : List Val, h.length ≤ (l.foldl bagStep h).length := by
  induction l with
  | nil => intro h; exact Nat.le_refl _
  | cons x l ih => intro h; exact Nat.le_trans (step_ge h x) (ih _)
set_option maxRecDepth 100000 in
theorem bagTo_ge (l : List Val) (k : Nat) : (bagTo (l.take k)).length ≤ (bagTo l).length := by
  conv => rhs; rw [← List.take_append_drop k l, bagTo, List.foldl_append]
  exact fold_ge _ _
/-- the error of a bag -/
def bagE (l : List Val) (F : Nat → Bool) : Int := if mayB l F = 0 then (if 16 < (bagTo l).length then 13 else 0) else mayB l F
/-- the bag -/
structure BagIs (w : World) (l : List Val) (e : Int) (y : Val) (ly : List Val) : Prop where
  full : Full w y ly
  good : e = 0 → y.k = 5 ∧ y.i = 0 ∧ y.s = ⟨#[]⟩ ∧ ly = bagTo l
  bad : e ≠ 0 → y = ⟨0, 0, ⟨#[]⟩, none, 0, 0⟩ ∧ ly = []
set_option maxRecDepth 100000 in
theorem bagIs_bad {w : World} {l : List Val} {e : Int} (h : e ≠ 0) : BagIs w l e ⟨0, 0, ⟨#[]⟩, none, 0, 0⟩ [] :=
  ⟨⟨⟨0, 0, ⟨fun h => absurd rfl h, fun j hj => absurd hj (by simp), fun j hj => absurd hj (by simp), fun j hj => absurd hj (by simp), fun j hj => absurd hj (by simp), fun x hx => by cases hx⟩⟩, rfl, by decide, by decide⟩, fun h0 => absurd h0 h, fun _ => ⟨rfl, rfl⟩⟩
/-- what the loop over the values keeps -/
structure BagRel (w1 : World) (h : List Val) (v : Value) (wr : World) : Prop where
  own : wr.ownsRow w1.heap.size 24 4 v h.length (cellsL h)
  below : Below w1.heap.size w1 wr
  small : ∀ x ∈ h, x.s.size ≤ maxLen

set_option maxRecDepth 100000 in
theorem own_on4 {w w' : World} {base : Nat} {v : Value} {n : Nat} {xs : List Value} (h : w.ownsRow base 24 4 v n xs) (hk : ∀ g, base ≤ g → g < w.heap.size → w'.heap[g]? = w.heap[g]?) : w'.ownsRow base 24 4 v n xs := by
  obtain ⟨h1, h2⟩ := h
  refine ⟨h1, ?_⟩
  rcases h2 with h2 | ⟨g, cap, cur, e, hb, hg, hc, hm, hsz, ht⟩
  · exact .inl h2
  · exact .inr ⟨g, cap, cur, e, hb, (hk g hb (lt_block hg)).trans hg, hc, hm, hsz, ht⟩
set_option maxRecDepth 100000 in
theorem listAt_no (w : World) (ad : Option Addr) (N : Nat) : ∃ g o, ListAt w ad g o [] ∧ (([] : List Val) ≠ [] → N ≤ g) :=
  ⟨0, 0, ⟨fun h => absurd rfl h, (fun j hj => absurd hj (by simp)), (fun j hj => absurd hj (by simp)), (fun j hj => absurd hj (by simp)), (fun j hj => absurd hj (by simp)), (fun x hx => by cases hx)⟩, fun h => absurd rfl h⟩
set_option maxRecDepth 100000 in
set_option maxHeartbeats 2000000 in
theorem bagN_any (w : World) (l : List Val) (ad : Option Addr) (g o cp : Nat) (F : Nat → Bool) (hl : ListAt w ad g o l) (hm : l.length ≤ 100000) (hF : ∀ j, (h : j < l.length) → FormedIs w l[j].v (F j)) :
    Calls Tryz.prog 161 #[.slice ad l.length cp] w fun e w' => ∃ y ly, e = .returned (.tuple #[y.v, .int .i64 (bagE l F)]) ∧ BagIs w' l (bagE l F) y ly ∧ Below w.heap.size w w' ∧ ∃ g o, ListAt w' y.a g o ly ∧ (ly ≠ [] → w.heap.size ≤ g) := by
  have HL := Lib.hid hl
  have HF := Lib.hid hF
  clear hl hF
  go_enter Tryz.func161, Tryz.ntmps161
  go_wp2_with fail
  have h0 : Below w.heap.size w (w.alloc (.cells #[.int .i64 0, .int .i64 0, .string ⟨#[]⟩, .slice none 0 0] 24)) := (Below.refl _ _).alloc (Nat.le_refl _) _
  refine (mayBag_any _ l ad g o cp F (HL.out.below h0) (by unfold maxLen; omega) (fun j h => (HF.out j h).below h0)).mono ?_
  rintro e w1 ⟨rfl, h1⟩
  have hs1 : w.heap.size + 1 ≤ w1.heap.size := by have := h1.size; simpa using this
  have hb1 : Below w.heap.size w w1 := h0.trans (h1.mono (by simp))
  have hz : w1.heap[w.heap.size]? = some (.cells #[.int .i64 0, .int .i64 0, .string ⟨#[]⟩, .slice none 0 0] 24 (0, 0)) := by
    rw [h1.block _ (by simp)]; exact heap_alloc_new _ _
  by_cases e0 : mayB l F = 0
  case neg =>
    have hbe : bagE l F = mayB l F := by rw [bagE, if_neg e0]
    obtain ⟨hc, hf⟩ := bcell h1
    have e0' : (mayB l F != 0) = true := by simpa using e0
    generalize mayB l F = E at *
    go_wp2
    exact bodyPost_ret (v := .tuple #[(⟨0, 0, ⟨#[]⟩, none, 0, 0⟩ : Val).v, .int .i64 E]) (by simp [results, Tryz.results161, go_sem, hc, Val.v, V]) rfl ⟨_, _, by rw [hbe], bagIs_bad (by rw [hbe]; exact e0), below_set4 hb1 _ (Nat.le_refl _) _ _ _ _, listAt_no _ _ _⟩
  have hbe : bagE l F = if 16 < (bagTo l).length then 13 else 0 := by rw [bagE, if_pos e0]
  rw [e0]
  have HBE := Lib.hid hbe
  have HB1 := Lib.hid hb1
  have HZ := Lib.hid hz
  have HR0 : Hid (BagRel w1 (bagTo (l.take 0)) (.slice none 0 0) w1) := Lib.hid ⟨World.ownsRow_nil _ _ _ _, Below.refl _ _, fun x hx => by cases hx⟩
  clear h0 h1 hb1 hz hbe e0 HF
  go_wp2_with fail
  go_loopw [5, 18] (fun v i wr => ∃ k : Nat, k ≤ l.length ∧ (bagTo (l.take k)).length ≤ 16 ∧ i = .int .i64 k ∧ Hid (BagRel w1 (bagTo (l.take k)) v wr)) (fun _ i _ => l.length - (intOf i).toNat)
  case atStart => exact ⟨0, by omega, by simp [bagTo], rfl, HR0⟩
  case round =>
    clear HR0
    obtain ⟨k, hk, h16, rfl, HR⟩ := hrel
    by_cases hlt : k < l.length
    · obtain rfl := HL.out.at' (by intro e; subst e; simp at hlt)
      have hs0 := HR.out.below.size
      have HBr := Lib.hid (HB1.out.trans (HR.out.below.mono (by omega)))
      obtain ⟨x, hX⟩ : ∃ x, l[k]! = x := ⟨_, rfl⟩
      have hsn := bagTo_snoc l k hlt
      rw [hX] at hsn
      have hlw := HL.out.below HBr.out
      have e : x = l[k] := by rw [← hX]; exact getElem!_pos l k hlt
      have c0 := hlw.c0 k hlt
      have c1 := hlw.c1 k hlt
      have c2 := hlw.c2 k hlt
      have c3 := hlw.c3 k hlt
      have hxs : x.s.size ≤ maxLen := by rw [e]; exact HL.out.size _ (List.getElem_mem _)
      rw [← e] at c0 c1 c2 c3
      have hge := bagTo_ge l (k + 1)
      have hri := rising_bagged (l.take k)
      obtain ⟨h, hh⟩ : ∃ h, bagTo (l.take k) = h := ⟨_, rfl⟩
      rw [hh] at hsn hri HR h16
      rw [hsn] at hge
      have HSN := Lib.hid hsn
      have hgz : g < wr.heap.size := block_lt_of_cell c0
      obtain ⟨va, vg, vc, rfl, hla, hvg⟩ := own_list HR.out.own HR.out.small
      have S : Hid (∀ W, Below wr.heap.size wr W → Calls Tryz.prog 167 #[.slice va h.length vc, .agg #[.int .i64 x.k, .int .i64 x.i, .string x.s, .slice x.a x.n x.c], .func (.func 168) #[] #[]] W
          fun e w' => e = .returned (.tuple #[.int .i64 (place h x : Int), .bool (foundAt h x (place h x))]) ∧ Below W.heap.size W w') := Lib.hid (by
        intro W hW
        exact search_any W h va vg 0 vc x (place h x) (hla.below hW) (spot_place hri) (by omega))
      have HXS := Lib.hid hxs
      have HGE := Lib.hid hge
      have HRI := Lib.hid hri
      clear hX hlw e hxs hge hri hla hsn hh hvg
      go_wp2_with fail
      refine (S.out _ ((Below.refl _ _).alloc (Nat.le_refl _) _)).mono ?_
      rintro e w2 ⟨rfl, hb2⟩
      have hB2 : Below wr.heap.size wr w2 := ((Below.refl _ _).alloc (Nat.le_refl _) _).trans (hb2.mono (by simp))
      have hxb : w2.heap[wr.heap.size]? = some (.cells #[.int .i64 x.k, .int .i64 x.i, .string x.s, .slice x.a x.n x.c] 24 (0, 0)) := by rw [hb2.block _ (by simp)]; exact heap_alloc_new _ _
      have hR2 : BagRel w1 h (.slice va h.length vc) w2 := ⟨own_on4 HR.out.own fun g _ hg => hB2.block g hg, HR.out.below.trans (hB2.mono hs0), HR.out.small⟩
      have HR2 := Lib.hid hR2
      have HXB := Lib.hid hxb
      have hs2 : wr.heap.size < w2.heap.size := lt_block hxb
      have hz2 : w2.heap[w.heap.size]? = some (.cells #[.int .i64 0, .int .i64 0, .string ⟨#[]⟩, .slice none 0 0] 24 (0, 0)) := by rw [hR2.below.block _ (by omega)]; exact HZ.out
      have HZ2 := Lib.hid hz2
      have HBw2 := Lib.hid (HB1.out.trans (hR2.below.mono (by omega)))
      have hlen := length_step h x (place_le h x)
      obtain ⟨fo, hfo⟩ : ∃ fo, foundAt h x (place h x) = fo := ⟨_, rfl⟩
      rw [hfo] at hlen ⊢
      have HFO := Lib.hid hfo
      clear hb2 hB2 hxb hR2 hz2 c0 c1 c2 c3 S HR hfo
      cases fo
      case true =>
        go_wp2_with fail
        go_roundw
        case rel => exact ⟨k + 1, by omega, by rw [HSN.out, hlen]; simpa using h16, by go_num, Lib.hid (by rw [HSN.out, bagStep, HFO.out]; exact HR2.out)⟩
        case measure => simp [intOf]; omega
      rw [if_neg (by decide)] at hlen
      by_cases h17 : h.length = 16
      · have hbe13 : bagE l F = 13 := by rw [HBE.out, if_pos (by have := HGE.out; omega)]
        have HB13 := Lib.hid hbe13
        have z0 := cell_block HZ2.out 0
        have z1 := cell_block HZ2.out 1
        have z2 := cell_block HZ2.out 2
        have z3 := cell_block HZ2.out 3
        have zf : ∀ o, w2.frozen? ⟨w.heap.size, o, none⟩ = false := fun o => by simp [World.frozen?, HZ2.out]
        simp at z0 z1 z2 z3
        clear hbe13
        have HBw2z := HBw2
        go_wp2_with fail
        exact bodyPost_ret (v := .tuple #[(⟨0, 0, ⟨#[]⟩, none, 0, 0⟩ : Val).v, .int .i64 13]) (by simp [results, Tryz.results161, go_sem, z0, z1, z2, z3, Val.v, V]) rfl ⟨_, _, by rw [HB13.out], bagIs_bad (by rw [HB13.out]; decide), below_set4 HBw2.out _ (Nat.le_refl _) _ _ _ _, listAt_no _ _ _⟩
      · have h17' : ((h.length : Int) == 16) = false := by simp; omega
        have x0 := cell_block HXB.out 0
        have x1 := cell_block HXB.out 1
        have x2 := cell_block HXB.out 2
        have x3 := cell_block HXB.out 3
        simp at x0 x1 x2 x3
        have I : Hid (∀ W, Below w2.heap.size w2 W → W.heap[w2.heap.size]? = some (.cells #[.int .i64 x.k, .int .i64 x.i, .string x.s, .slice none 0 0] 24 (0, 0)) →
            Calls Tryz.prog 169 #[.slice va h.length vc, .int .i64 (place h x : Int), .slice (some ⟨w2.heap.size, 0, none⟩) 1 1] W fun e w' => ∃ v', e = .returned v' ∧ BagRel w1 (bagStep h x) v' w') := Lib.hid (by
          intro W hW hG
          have hown := own_on4 (w' := W) HR2.out.own fun g _ hg => hW.block g hg
          have hbW : Below w1.heap.size w1 W := HR2.out.below.trans (hW.mono HR2.out.below.size)
          refine (insert_any W w1.heap.size _ h (place h x) (place_le h x) (by omega) hown w2.heap.size (bare x) hG (fun e => by have := (HR2.out.own.lt _ e).2; omega) hbW.size).mono ?_
          rintro e w' ⟨v', rfl, ho', hb'⟩
          have hst : bagStep h x = h.take (place h x) ++ bare x :: h.drop (place h x) := by rw [bagStep, HFO.out]; rfl
          refine ⟨v', rfl, ?_, hbW.trans hb', small_step HR2.out.small HXS.out⟩
          rw [hlen, hst]; exact ho')
        go_wp2_with fail
        refine (I.out _ ((Below.refl _ _).alloc (Nat.le_refl _) _) (heap_alloc_new _ _)).mono ?_
        rintro e w3 ⟨v', rfl, hR3⟩
        have HR3 := Lib.hid hR3
        clear hR3 I x0 x1 x2 x3
        go_wp2_with fail
        go_roundw
        case rel => exact ⟨k + 1, by omega, by rw [HSN.out, hlen]; omega, by go_num, Lib.hid (by rw [HSN.out]; exact HR3.out)⟩
        case measure => simp [intOf]; omega
    · obtain rfl : k = l.length := by omega
      have hbl : bagTo (l.take l.length) = bagTo l := by rw [List.take_length]
      rw [hbl] at HR h16
      obtain ⟨va, vg, vc, rfl, hla, hvg⟩ := own_list HR.out.own HR.out.small
      have hz' : wr.heap[w.heap.size]? = some (.cells #[.int .i64 0, .int .i64 0, .string ⟨#[]⟩, .slice none 0 0] 24 (0, 0)) := by rw [HR.out.below.block _ (by omega)]; exact HZ.out
      have HB := Lib.hid (HB1.out.trans (HR.out.below.mono (by omega)))
      have HLA := Lib.hid hla
      have HVG := Lib.hid hvg
      have hbe0 : bagE l F = 0 := by rw [HBE.out, if_neg (by omega)]
      have HB0 := Lib.hid hbe0
      have z0 := cell_block hz' 0
      have z1 := cell_block hz' 1
      have z2 := cell_block hz' 2
      have z3 := cell_block hz' 3
      have zf : ∀ o, wr.frozen? ⟨w.heap.size, o, none⟩ = false := fun o => by simp [World.frozen?, hz']
      have hzl := lt_block hz'
      simp at z0 z1 z2 z3
      clear hbe0 hla hvg hz' hbl
      go_wp2_with fail
      exact bodyPost_ret (v := .tuple #[(⟨5, 0, ⟨#[]⟩, va, (bagTo l).length, vc⟩ : Val).v, .int .i64 0]) (by simp [results, Tryz.results161, go_sem, z0, z1, z2, z3, Val.v, V]) rfl
        ⟨⟨5, 0, ⟨#[]⟩, va, (bagTo l).length, vc⟩, bagTo l, by rw [HB0.out], ⟨⟨⟨vg, 0, HLA.out.set4 (fun hne => by have := HVG.out hne; omega) _ _ _ _⟩, rfl, Nat.zero_le _, by show (bagTo l).length ≤ maxLen; unfold maxLen; omega⟩, fun _ => ⟨rfl, rfl, rfl, rfl⟩, fun h => absurd HB0.out h⟩, below_set4 HB.out _ (Nat.le_refl _) _ _ _ _, vg, 0, HLA.out.set4 (fun hne => by have := HVG.out hne; omega) _ _ _ _, fun hne => by have := HVG.out hne; omega⟩
set_option maxRecDepth 100000 in
theorem bag_any (w : World) (l : List Val) (ad : Option Addr) (g o cp : Nat) (F : Nat → Bool) (hl : ListAt w ad g o l) (hm : l.length ≤ 100000) (hF : ∀ j, (h : j < l.length) → FormedIs w l[j].v (F j)) :
    Calls Tryz.prog 161 #[.slice ad l.length cp] w fun e w' => ∃ y ly, e = .returned (.tuple #[y.v, .int .i64 (bagE l F)]) ∧ BagIs w' l (bagE l F) y ly ∧ Below w.heap.size w w' :=
  (bagN_any w l ad g o cp F hl hm hF).mono fun _ _ ⟨y, ly, h1, h2, h3, _⟩ => ⟨y, ly, h1, h2, h3⟩
end Go.Proofs.YtllgodaphoncnaaGreatDoor
namespace Go.Proofs.YtllgodaphoncnaaGreatDoor

abbrev kOr : List UInt8 := [111, 114]
abbrev kAnd : List UInt8 := [97, 110, 100]
abbrev kNot : List UInt8 := [110, 111, 116]
abbrev kIn : List UInt8 := [105, 110]
abbrev kEq : List UInt8 := [61, 61]
abbrev kNe : List UInt8 := [33, 61]
abbrev kLt : List UInt8 := [60]
abbrev kLe : List UInt8 := [60, 61]
abbrev kGt : List UInt8 := [62]
abbrev kGe : List UInt8 := [62, 61]
abbrev kPlus : List UInt8 := [43]
abbrev kMinus : List UInt8 := [45]
abbrev kStar : List UInt8 := [42]
abbrev kNeg : List UInt8 := [110, 101, 103]
abbrev kNow : List UInt8 := [110, 111, 119]
abbrev kHas : List UInt8 := [104, 97, 115]
abbrev kRole : List UInt8 := [114, 111, 108, 101]
abbrev kSize : List UInt8 := [115, 105, 122, 101]
abbrev kOpen : List UInt8 := [91]
abbrev kClose : List UInt8 := [93]
abbrev kPar : List UInt8 := [40]
abbrev kEnd : List UInt8 := [41]
abbrev kComma : List UInt8 := [44]
abbrev kDot : List UInt8 := [46]
abbrev kTrue : List UInt8 := [116, 114, 117, 101]
abbrev kFalse : List UInt8 := [102, 97, 108, 115, 101]
abbrev kValue : List UInt8 := [118, 97, 108, 117, 101]
abbrev kAttr : List UInt8 := [97, 116, 116, 114]
abbrev kSubject : List UInt8 := [115, 117, 98, 106, 101, 99, 116]
abbrev kResource : List UInt8 := [114, 101, 115, 111, 117, 114, 99, 101]
abbrev kAction : List UInt8 := [97, 99, 116, 105, 111, 110]
abbrev kEnv : List UInt8 := [101, 110, 118]
def keptL : List (List UInt8) := [[102, 97, 99, 116], [116, 114, 117, 116, 104], [110, 117, 109, 98, 101, 114], [116, 101, 120, 116], [116, 105, 109, 101], [98, 97, 103], [117, 115, 101], [112, 111, 108, 105, 99, 121], [98, 121], [102, 111, 114], [112, 101, 114, 109, 105, 116], [100, 101, 110, 121], [105, 102], [100, 117, 116, 121], [97, 100, 118, 105, 99, 101], [116, 114, 117, 101], [102, 97, 108, 115, 101], [110, 111, 119], [111, 114], [97, 110, 100], [110, 111, 116], [105, 110], [104, 97, 115], [114, 111, 108, 101], [115, 105, 122, 101], [115, 117, 98, 106, 101, 99, 116], [114, 101, 115, 111, 117, 114, 99, 101], [97, 99, 116, 105, 111, 110], [101, 110, 118]]
/-- a value as plain data: its kind, number, text, and what is in it -/
structure PV where
  k : Int
  i : Int
  s : ByteArray
  l : List Val
def noPV : PV := ⟨0, 0, ⟨#[]⟩, []⟩
/-- a tree -/
inductive Tr where
  | mk (op : List UInt8) (v : PV) (who name : List UInt8) (ps : List Tr)
instance : Inhabited Tr := ⟨.mk [] noPV [] [] []⟩
def Tr.op : Tr → List UInt8 | .mk o _ _ _ _ => o
def Tr.v : Tr → PV | .mk _ v _ _ _ => v
def Tr.who : Tr → List UInt8 | .mk _ _ w _ _ => w
def Tr.name : Tr → List UInt8 | .mk _ _ _ n _ => n
def Tr.ps : Tr → List Tr | .mk _ _ _ _ p => p
def noTr : Tr := .mk [] noPV [] [] []
def leafT (op : List UInt8) : Tr := .mk op noPV [] [] []
def valT (v : PV) : Tr := .mk kValue v [] [] []
def attrT (op who name : List UInt8) : Tr := .mk op noPV who name []
def roleT (name : List UInt8) : Tr := .mk kRole noPV [] name []
def mk1 (op : List UInt8) (a : Tr) : Tr := .mk op noPV [] [] [a]
def mk2 (op : List UInt8) (a b : Tr) : Tr := .mk op noPV [] [] [a, b]
/-- the reader: how many tokens are read, and what went wrong first, and where -/
structure PS where
  at' : Nat
  err : Option (Int × Nat)
def failP (e : Int) (pl : Nat) (p : PS) : PS := if p.err.isNone then { p with err := some (e, pl) } else p
def stopP (p : PS) : PS := failP 2 p.at' p
def passP (p : PS) : PS := { p with at' := p.at' + 1 }
section
variable (T : List Tk)
/-- the token ahead -/
def aheadP (p : PS) : Tk := if p.err.isSome then noTk else match T[p.at']? with
  | some t => if formB t then t else noTk
  | none => noTk
def isP (t : Tk) (s : List UInt8) : Bool := (t.k == 1 || t.k == 5) && t.s == s
def takesP (s : List UInt8) (p : PS) : Bool × PS := if isP (aheadP T p) s then (true, passP p) else (false, p)
def takesOneP : List (List UInt8) → PS → List UInt8 × PS
  | [], p => ([], p)
  | s :: of, p => if isP (aheadP T p) s then (s, passP p) else takesOneP of p
def needsP (s : List UInt8) (p : PS) : PS := if isP (aheadP T p) s then passP p else stopP p
def ownP (k : Int) (p : PS) : List UInt8 × PS := if (aheadP T p).k == k then ((aheadP T p).s, passP p) else ([], stopP p)
def keptB (s : List UInt8) : Bool := keptL.contains s
def nameP (p : PS) : List UInt8 × PS := ownP T 1 (if keptB (aheadP T p).s then stopP p else p)
def whoL : List (List UInt8) := [kSubject, kResource, kAction, kEnv]
def attrTail (o : List UInt8 × PS) : (List UInt8 × List UInt8) × PS :=
  ((o.1, (nameP T (needsP T kDot (if o.1 = [] then stopP o.2 else o.2))).1), (nameP T (needsP T kDot (if o.1 = [] then stopP o.2 else o.2))).2)
def attributeP (p : PS) : (List UInt8 × List UInt8) × PS := attrTail T (takesOneP T whoL p)
def attrP (op : List UInt8) (p : PS) : Tr × PS := (attrT op (attributeP T p).1.1 (attributeP T p).1.2, (attributeP T p).2)
/-- a literal, if it is one -/
def litP (t : Tk) : Option Val :=
  if t.k == 2 then some ⟨2, t.n, ⟨#[]⟩, none, 0, 0⟩
  else if t.k == 3 then some ⟨3, 0, st t.s, none, 0, 0⟩
  else if t.k == 4 then some ⟨4, t.n, ⟨#[]⟩, none, 0, 0⟩
  else if t.k == 1 && (t.s == kTrue || t.s == kFalse) then some ⟨1, if t.s == kTrue then 1 else 0, ⟨#[]⟩, none, 0, 0⟩
  else none
def noVal : Val := ⟨0, 0, ⟨#[]⟩, none, 0, 0⟩
/-- a bag's item -/
def memberP (p : PS) : Val × PS :=
  if isP (aheadP T p) kMinus then
    (if (aheadP T (passP p)).k == 2 then (⟨2, -(aheadP T (passP p)).n, ⟨#[]⟩, none, 0, 0⟩, passP (passP p)) else (⟨2, 0, ⟨#[]⟩, none, 0, 0⟩, stopP (passP p)))
  else match litP (aheadP T p) with
    | some v => (v, passP p)
    | none => (noVal, stopP p)
def membersP : Nat → List Val × PS → List Val × PS
  | 0, x => x
  | n + 1, x => if isP (aheadP T x.2) kComma then membersP n (x.1 ++ [(memberP T (passP x.2)).1], (memberP T (passP x.2)).2) else x
def bagV (l : List Val) : PV := if bagE l (fun j => l[j]!.alone) = 0 then ⟨5, 0, ⟨#[]⟩, bagTo l⟩ else noPV
/-- a bag, behind its bracket -/
def bagTail (open_ : Nat) (x : List Val × PS) : Tr × PS :=
  (valT (bagV x.1), if bagE x.1 (fun j => x.1[j]!.alone) = 0 then needsP T kClose x.2 else failP 2 open_ (needsP T kClose x.2))
def bagP (p : PS) : Tr × PS := bagTail T (p.at' - 1) (membersP T (T.length + 1) ([(memberP T p).1], (memberP T p).2))
def PV.of (v : Val) : PV := ⟨v.k, v.i, v.s, []⟩
inductive Lv where
  | ors | ands | nots | cmp | sum | prod | neg | plain
def Lv.rank : Lv → Nat
  | .ors => 7 | .ands => 6 | .nots => 5 | .cmp => 4 | .sum => 3 | .prod => 2 | .neg => 1 | .plain => 0
def cmpOps : List (List UInt8) := [kEq, kNe, kLt, kLe, kGt, kGe, kIn]
def plainOps : List (List UInt8) := [kNow, kHas, kRole, kSize, kOpen, kPar]
def closedP (x : Tr × PS) : Tr × PS := (x.1, needsP T kEnd x.2)
def callP (ex : PS → Tr × PS) (op : List UInt8) (p : PS) : Tr × PS :=
  if op = kHas then attrP T kHas p
  else if op = kRole then (roleT (ownP T 3 p).1, (ownP T 3 p).2)
  else (mk1 op (ex p).1, (ex p).2)
def plainP (ex : PS → Tr × PS) (p : PS) : Tr × PS := match litP (aheadP T p) with
  | some v => (valT (PV.of v), passP p)
  | none =>
    if whoL.contains (aheadP T p).s then attrP T kAttr p else
    let o := takesOneP T plainOps p
    if o.1 = kNow then (leafT kNow, o.2)
    else if o.1 = kOpen then bagP T o.2
    else if o.1 = kPar then closedP T (ex o.2)
    else if o.1 = [] then (noTr, stopP o.2)
    else closedP T (callP T ex o.1 (needsP T kPar o.2))
/-- parts with ops between that bind alike, behind the first one -/
def loopP (part : PS → Tr × PS) (ops : List (List UInt8)) : Nat → Tr × PS → Tr × PS
  | 0, x => x
  | n + 1, x => if (takesOneP T ops x.2).1 = [] then (x.1, (takesOneP T ops x.2).2) else loopP part ops n (mk2 (takesOneP T ops x.2).1 x.1 (part (takesOneP T ops x.2).2).1, (part (takesOneP T ops x.2).2).2)
def stepP (rec : Lv → PS → Tr × PS) : Lv → PS → Tr × PS
  | .ors, p => loopP T (rec .ands) [kOr] (T.length + 1) (rec .ands p)
  | .ands, p => loopP T (rec .nots) [kAnd] (T.length + 1) (rec .nots p)
  | .nots, p => if isP (aheadP T p) kNot then (mk1 kNot (rec .nots (passP p)).1, (rec .nots (passP p)).2) else rec .cmp p
  | .cmp, p =>
    let a := rec .sum p
    let o := takesOneP T cmpOps a.2
    if o.1 = [] then a else (mk2 o.1 a.1 (rec .sum o.2).1, (rec .sum o.2).2)
  | .sum, p => loopP T (rec .prod) [kPlus, kMinus] (T.length + 1) (rec .prod p)
  | .prod, p => loopP T (rec .neg) [kStar] (T.length + 1) (rec .neg p)
  | .neg, p => if isP (aheadP T p) kMinus then (mk1 kNeg (rec .neg (passP p)).1, (rec .neg (passP p)).2) else rec .plain p
  | .plain, p => plainP T (rec .ors) p
def fuelP : Nat → Lv → PS → Tr × PS
  | 0, _, p => (noTr, p)
  | f + 1, lv, p => stepP T (fuelP f) lv p
/-- what each level reads -/
def exprP (lv : Lv) (p : PS) : Tr × PS := fuelP T (8 * (T.length + 1)) lv p
def Lv.mu (lv : Lv) (p : PS) : Nat := 8 * (T.length - p.at') + lv.rank
end
end Go.Proofs.YtllgodaphoncnaaGreatDoor
