/- The reference's numbers and parts; What is proved of a region goes into a round of a loop over a function. No program is named here; slices.Backward over the writes that wait: its contract. -/
import Derived.Test.YtlhfdlfbnnfjjaaDoorJ32
import Derived.Test.YtlhfdlfbnnfjjaaDoorJ24
import Derived.Test.YtlhfdlfbnnfjjaaDoorJ06
import Derived.OrdersIn
import Derived.TacticsIn
import Derived.RangeFuncCalls
import Derived.Test.YtlhfdlfbnnfjjaaDoorJ31
import Derived.RangeFuncNested
import Derived.RangeFuncBound
import Derived.RangeFuncLeaves
import Derived.Shelf.Abstract
import Derived.Shelf.RegionOpen
import Derived.OwnWalkIn
import Derived.TacticsInMore
import Derived.LoopNIn
import Derived.LoopIn
namespace Go.Proofs.YtlhfdlfbnnfjjaaDoor
open Go.RowKit

set_option maxRecDepth 100000 in
set_option maxHeartbeats 400000 in
theorem refNum_any (g o len cap : Nat) (c0 c1 c2 c3 : UInt8) (w : World) (hl : 4 ≤ len) (hm : len ≤ 1000000)
    (h0 : w.cell? ⟨g, o, none⟩ = some (B c0)) (h1 : w.cell? ⟨g, o + 1, none⟩ = some (B c1))
    (h2 : w.cell? ⟨g, o + 2, none⟩ = some (B c2)) (h3 : w.cell? ⟨g, o + 3, none⟩ = some (B c3)) :
    Calls Tryd.prog 27 #[.slice (some ⟨g, o, none⟩) len cap] w fun e w' => e = .returned (.int .i64 ((numU [c0, c1, c2, c3] : Nat) : Int)) ∧ Below w.heap.size w w' := by
  have e : ((numU [c0, c1, c2, c3] : Nat) : Int) = (c0.toNat : Int) * 16777216 + (c1.toNat : Int) * 65536 + (c2.toNat : Int) * 256 + (c3.toNat : Int) := by
    simp [numU]; omega
  have b0 := c0.toNat_lt
  have b1 := c1.toNat_lt
  have b2 := c2.toNat_lt
  have b3 := c3.toNat_lt
  rw [e]
  clear e
  unfold B at *
  generalize c0.toNat = n0 at *
  generalize c1.toNat = n1 at *
  generalize c2.toNat = n2 at *
  generalize c3.toNat = n3 at *
  go_enter Tryd.func27, Tryd.ntmps27
  go_wp2
  go_quiet (fail)
  go_wp2
  go_ret
  exact ⟨rfl, below_drewN (Below.refl _ _) _⟩

set_option maxRecDepth 100000 in
theorem pc_set1 (n k : Nat) (h : k < 4) (X : List Value) : (numC n 4 k ++ X).set k (B (UInt8.ofNat (n / 256 ^ (3 - k)))) = numC n 4 (k + 1) ++ X := by
  rw [List.set_append_left _ _ (by rw [numC_length _ _ _ (by omega)]; omega)]
  congr 1
  exact numC_set n 4 k h
set_option maxRecDepth 100000 in
theorem pc_set2 (n g k : Nat) (h : k < 4) (Y : List Value) : (numC n 4 (k + 1) ++ (numC g 4 k ++ Y)).set (4 + k) (B (UInt8.ofNat (g / 256 ^ (3 - k)))) = numC n 4 (k + 1) ++ (numC g 4 (k + 1) ++ Y) := by
  rw [List.set_append_right _ _ (by rw [numC_length _ _ _ (by omega)]; omega), numC_length _ _ _ (by omega), show 4 + k - 4 = k by omega, pc_set1 g k h]
structure PartRel (w : World) (n g k : Nat) (wr : World) : Prop where
  blk : wr.heap[w.heap.size]? = some (.cells (numC n 4 k ++ (numC g 4 k ++ czeros 56)).toArray 5 (0, 0))
  below : Below w.heap.size w wr
set_option maxRecDepth 100000 in
theorem pc_len (n g k k' : Nat) (h : k ≤ 4) (h' : k' ≤ 4) : (numC n 4 k ++ (numC g 4 k' ++ czeros 56)).length = 64 := by simp [numC_length _ _ _ h, numC_length _ _ _ h', czeros]
set_option maxRecDepth 100000 in
theorem PartRel.step {w wr : World} {n g k : Nat} (h : PartRel w n g k wr) (hk : k < 4) (a b : Value) (ha : a = B (UInt8.ofNat (n / 256 ^ (3 - k)))) (hb : b = B (UInt8.ofNat (g / 256 ^ (3 - k)))) : PartRel w n g (k + 1) ((wr.setCell ⟨w.heap.size, k, none⟩ a).setCell ⟨w.heap.size, 4 + k, none⟩ b) := by
  subst ha hb
  have h1 : (wr.setCell ⟨w.heap.size, k, none⟩ (B (UInt8.ofNat (n / 256 ^ (3 - k))))).heap[w.heap.size]? = some (.cells (numC n 4 (k + 1) ++ (numC g 4 k ++ czeros 56)).toArray 5 (0, 0)) := by
    rw [heap_setCell_same _ _ _ _ _ _ h.blk]
    simp only [List.setIfInBounds_toArray]
    rw [pc_set1 n k hk]
  refine ⟨?_, (h.below.setCell (Nat.le_refl _) _).setCell (Nat.le_refl _) _⟩
  rw [heap_setCell_same _ _ _ _ _ _ h1]
  simp only [List.setIfInBounds_toArray]
  rw [pc_set2 n g k hk]
set_option maxRecDepth 100000 in
theorem PartRel.cell {w wr : World} {n g k : Nat} (h : PartRel w n g k wr) (hk : k ≤ 4) (i : Nat) (hi : i < 64) : ∃ c, wr.cell? ⟨w.heap.size, i, none⟩ = some c :=
  ⟨_, by rw [cell_block h.blk]; simp only [List.getElem?_toArray]; exact List.getElem?_eq_getElem (by rw [pc_len _ _ _ _ hk hk]; exact hi)⟩
set_option maxRecDepth 100000 in
theorem byte_at {n d : Nat} {v : Int} (h : v = ((n / d % 256 : Nat) : Int)) : Value.int .u8 v = B (UInt8.ofNat (n / d)) := by
  unfold B
  rw [h, show (UInt8.ofNat (n / d)).toNat = n / d % 256 by simp]
set_option maxRecDepth 100000 in
/-- a slice of bytes copied into a block of one's own -/
theorem wpList_copy_into {ops : Array Oper} {rest : List Oper} {o : Oper} {a : Act} {w : World} {Q : Exit → Act → World → Prop} (hgd : o.guard = none) (d s : Operand)
    (ho : o.op = .call { callee := .builtin .copy, args := #[d, s], argTypes := #[32, 32] }) (G off n c : Nat) (hd : a.eval d = .slice (some ⟨G, off, none⟩) n c) (p : Part) (hp : p.In w) (hs : a.eval s = .slice p.ad p.l.length p.cap) (hln : p.l.length ≤ n)
    {L : List Value} (hG : w.heap[G]? = some (.cells L.toArray 5 (0, 0))) (hfit : off + p.l.length ≤ L.length) (N : Nat) (w0 : World) (hb : Below N w0 w) (hN : N ≤ G)
    (h : ∀ w', Hid (w'.heap[G]? = some (.cells (splice L off (p.l.map B)).toArray 5 (0, 0))) → Below N w0 w' → wpList Tryd.prog ops Q rest (a.put o.dst (goInt p.l.length)) w') : wpList Tryd.prog ops Q (o :: rest) a w := by
  refine wpList_copy_splice hgd d s 32 32 ho 5 Tryd.underlying32 info5 _ _ n c p.l.length p.cap hd hs G off L 5 hG (p.l.map B) (by rw [List.length_map]; exact (Nat.min_eq_left hln).symm)
    (fun h0 => ⟨rfl, by
      have hne : p.l ≠ [] := by intro e; rw [e] at h0; cases h0
      refine ⟨_, hp.bytes.at' hne, fun j v hv => ?_⟩
      obtain ⟨hj, e⟩ := List.getElem?_eq_some_iff.1 hv
      rw [Addr.add_mid, hp.bytes.cell j (by simpa using hj), ← e]
      simp⟩) (by simpa using hfit) (one_bytes _) N w0 hb hN ?_
  intro w' hg hb'
  have := h w' hg hb'
  rwa [List.length_map]
/-- the head, the rest noughts -/
def pcEnd (n g p c l : Nat) : List Value := ((((numC n 4 4 ++ (numC g 4 4 ++ czeros 56)).set 8 (B (UInt8.ofNat p))).set 9 (B (UInt8.ofNat c))).set 11 (B (UInt8.ofNat l)))
set_option maxRecDepth 100000 in
theorem pc_end_len (n g p c l : Nat) : (pcEnd n g p c l).length = 64 := by unfold pcEnd; simp only [List.length_set]; exact pc_len n g 4 4 (Nat.le_refl _) (Nat.le_refl _)
set_option maxRecDepth 100000 in
theorem byte_of (n : Nat) (h : n < 256) : Value.int .u8 (n : Int) = B (UInt8.ofNat n) := by
  unfold B
  rw [show (UInt8.ofNat n).toNat = n by simp; omega]
set_option maxRecDepth 100000 in
theorem PartRel.ends {w wr : World} {n g : Nat} (h : PartRel w n g 4 wr) (p c l : Nat) (hp : p < 256) (hc : c < 256) (hl : l < 256) :
    (((wr.setCell ⟨w.heap.size, 8, none⟩ (.int .u8 (p : Int))).setCell ⟨w.heap.size, 9, none⟩ (.int .u8 (c : Int))).setCell ⟨w.heap.size, 11, none⟩ (.int .u8 (l : Int))).heap[w.heap.size]? = some (.cells (pcEnd n g p c l).toArray 5 (0, 0)) ∧
    Below w.heap.size w (((wr.setCell ⟨w.heap.size, 8, none⟩ (.int .u8 (p : Int))).setCell ⟨w.heap.size, 9, none⟩ (.int .u8 (c : Int))).setCell ⟨w.heap.size, 11, none⟩ (.int .u8 (l : Int))) := by
  refine ⟨?_, ((h.below.setCell (Nat.le_refl _) _).setCell (Nat.le_refl _) _).setCell (Nat.le_refl _) _⟩
  rw [byte_of p hp, byte_of c hc, byte_of l hl]
  have h1 := heap_setCell_same wr w.heap.size 8 _ _ (B (UInt8.ofNat p)) h.blk
  have h2 := heap_setCell_same _ w.heap.size 9 _ _ (B (UInt8.ofNat c)) h1
  rw [heap_setCell_same _ w.heap.size 11 _ _ (B (UInt8.ofNat l)) h2]
  simp only [List.setIfInBounds_toArray]
  rfl
set_option maxRecDepth 100000 in
theorem numC_full (n k : Nat) : numC n k k = (numB n k).map B := by
  unfold numC
  rw [List.take_of_length_le (by rw [numB_length]; omega)]
  simp [czeros]
set_option maxRecDepth 100000 in
theorem splice_end (n g p c : Nat) (l : List UInt8) (hl : l.length ≤ 52) : splice (pcEnd n g p c l.length) 12 (l.map B) = (encS ⟨n, g, p, c, l.length⟩ l).map B := by
  have h4 : ∀ m, ∃ a b c d, numB m 4 = [a, b, c, d] := fun m => ⟨_, _, _, _, rfl⟩
  have e1 : numB p 1 = [UInt8.ofNat p] := by simp [numB]
  have e2 : numB c 1 = [UInt8.ofNat c] := by simp [numB]
  have e3 : numB l.length 2 = [0, UInt8.ofNat l.length] := by
    have : l.length / 256 = 0 := by omega
    simp [numB, List.range_succ, this]
  obtain ⟨a0, a1, a2, a3, ea⟩ := h4 n
  obtain ⟨b0, b1, b2, b3, eb⟩ := h4 g
  have e56 : czeros 56 = B 0 :: B 0 :: B 0 :: B 0 :: czeros 52 := rfl
  unfold splice pcEnd encS encH
  rw [numC_full, numC_full, ea, eb, e1, e2, e3, e56]
  simp only [List.map_cons, List.map_nil, List.cons_append, List.nil_append, List.set_cons_succ, List.set_cons_zero, List.length_map, List.map_append, List.take_succ_cons, List.take_zero, List.map_replicate]
  rw [show 12 + l.length = l.length + 12 by omega]
  simp only [List.drop_succ_cons, czeros, List.drop_replicate]
set_option maxRecDepth 100000 in
set_option maxHeartbeats 2000000 in
theorem refPart_any (w : World) (n g p c : Nat) (q : Part) (hn : n < 4294967296) (hg : g < 4294967296) (hp : p < 256) (hc : c < 256) (hq : q.In w) (hql : q.l.length ≤ 52) :
    Calls Tryd.prog 38 #[.int .i64 (n : Int), .int .i64 (g : Int), .int .i64 (p : Int), .int .i64 (c : Int), q.val] w fun e w' =>
      ∃ gb, e = .returned (.slice (some ⟨gb, 0, none⟩) 64 64) ∧ w'.heap[gb]? = some (.cells ((encS ⟨n, g, p, c, q.l.length⟩ q.l).map B).toArray 5 (0, 0)) ∧ w.heap.size ≤ gb ∧ Below w.heap.size w w' := by
  have HQ := Lib.hid hq
  clear hq
  unfold Part.val
  go_enter Tryd.func38, Tryd.ntmps38
  go_wp2_with (refine cwpList_make_bytes rfl (.const (.int .i64 64)) rfl 64 _ rfl rfl (by omega) ?_)
  have HR0 : Hid (PartRel w n g 0 (w.alloc (.cells (czeros 64).toArray 5))) := Lib.hid ⟨by rw [heap_alloc_new]; simp [numC, czeros], (Below.refl _ _).alloc (Nat.le_refl _) _⟩
  generalize World.alloc _ _ = W0 at *
  go_wp2_with fail
  go_loopw [12] (fun i wr => ∃ k : Nat, k ≤ 4 ∧ i = .int .i64 k ∧ Hid (PartRel w n g k wr)) (fun i _ => 4 - (intOf i).toNat)
  case atStart => exact ⟨0, by omega, rfl, HR0⟩
  case round =>
    clear HR0
    obtain ⟨k, hk, rfl, HR⟩ := hrel
    have hfz : ∀ o, wr.frozen? ⟨w.heap.size, o, none⟩ = false := fun o => by simp [World.frozen?, HR.out.blk]
    have hb : w.heap.size < wr.heap.size := lt_block HR.out.blk
    by_cases hlt' : k < 4
    · have hk4 : k = 0 ∨ k = 1 ∨ k = 2 ∨ k = 3 := by omega
      obtain ⟨c1, hc1⟩ := HR.out.cell hk k (by omega)
      obtain ⟨c2, hc2⟩ := HR.out.cell hk (4 + k) (by omega)
      have e3 : (256 : Nat) ^ (3 - 0) = 16777216 := rfl
      have e2 : (256 : Nat) ^ (3 - 1) = 65536 := rfl
      have e1 : (256 : Nat) ^ (3 - 2) = 256 := rfl
      have e0 : (256 : Nat) ^ (3 - 3) = 1 := rfl
      have HE3 := Lib.hid e3
      have HE2 := Lib.hid e2
      have HE1 := Lib.hid e1
      have HE0 := Lib.hid e0
      clear e3 e2 e1 e0
      rcases hk4 with rfl | rfl | rfl | rfl
      · go_wp2_with fail
        go_roundw
        case rel => exact ⟨1, by omega, rfl, Lib.hid (HR.out.step (by omega) _ _ (byte_at (by rw [HE3.out]; omega)) (byte_at (by rw [HE3.out]; omega)))⟩
        case measure => simp [intOf]
      · go_wp2_with fail
        go_roundw
        case rel => exact ⟨2, by omega, rfl, Lib.hid (HR.out.step (by omega) _ _ (byte_at (by rw [HE2.out]; omega)) (byte_at (by rw [HE2.out]; omega)))⟩
        case measure => simp [intOf]
      · go_wp2_with fail
        go_roundw
        case rel => exact ⟨3, by omega, rfl, Lib.hid (HR.out.step (by omega) _ _ (byte_at (by rw [HE1.out]; omega)) (byte_at (by rw [HE1.out]; omega)))⟩
        case measure => simp [intOf]
      · go_wp2_with fail
        go_roundw
        case rel => exact ⟨4, by omega, rfl, Lib.hid (HR.out.step (by omega) _ _ (byte_at (by rw [HE0.out]; omega)) (byte_at (by rw [HE0.out]; omega)))⟩
        case measure => simp [intOf]
    · obtain rfl : k = 4 := by omega
      obtain ⟨c8, h8⟩ := HR.out.cell hk 8 (by omega)
      obtain ⟨c9, h9⟩ := HR.out.cell hk 9 (by omega)
      obtain ⟨c11, h11⟩ := HR.out.cell hk 11 (by omega)
      have HE := Lib.hid (HR.out.ends p c q.l.length hp hc (by omega))
      have HS := Lib.hid (splice_end n g p c q.l hql)
      have HP2 := Lib.hid (HQ.out.below HE.out.2)
      go_wp2_with (refine wpList_copy_into rfl (.tmp 53) (.tmp 54) rfl w.heap.size 12 52 52 rfl q HP2.out rfl hql HE.out.1 (by rw [pc_end_len]; omega) w.heap.size w HE.out.2 (Nat.le_refl _) ?_)
      intro w2 hg2 hb2
      have HB2 := Lib.hid hb2
      clear hb2 h8 h9 h11 hfz
      go_wp2_with fail
      go_ret
      exact ⟨_, rfl, by rw [hg2.out, HS.out], Nat.le_refl _, HB2.out⟩
end Go.Proofs.YtlhfdlfbnnfjjaaDoor
namespace Go.Proofs.YtlhfdlfbnnfjjaaDoor
open Go RowKit

section
variable {P : Program} {ops : Array Oper} {Q : Exit → Act → World → Prop} {md : Region.Mode}
set_option maxRecDepth 100000 in
theorem upon_in {o : Oper} {a : Act} {K K' : Act → World → Prop} (hK : ∀ a w, K a w → K' a w) (l n : Nat) {r : Result Next} (h : o.upon P a K Q r) : o.uponIn (Fence.wide.inRound l) n P a K' Q r := by
  cases r with
  | ok x w' =>
    cases x <;> simp only [Oper.upon, Oper.uponIn] at h ⊢
    case value => exact hK _ _ h
    case skip => exact hK _ _ h
    case defer => exact hK _ _ h
    case enter f args =>
      refine ⟨fun h => (by simp [Fence.wide] at h), CallsIn.inRound l ((callsIn_wide.2 h).mono fun e w'' he => ?_)⟩
      cases e with
      | returned v => exact hK _ _ he
      | panicked c => exact he
      | outgrown => exact he
    case row row args =>
      refine ⟨fun h => (by simp [Fence.wide] at h), fun c cs _ => ?_⟩
      obtain ⟨v, w'', hr, hs⟩ := h c cs
      exact ⟨v, w'', hK _ _ hr, stepsIn_wide.2 hs⟩
  | halt x w' => cases x <;> simp only [Oper.upon, Oper.uponIn] at h ⊢ <;> exact h
set_option maxRecDepth 100000 in
theorem wp_in {o : Oper} {a : Act} {w : World} {K K' : Act → World → Prop} (hd : ∀ c, o.op ≠ .defer c) (hK : ∀ a w, K a w → K' a w) (l n : Nat) (h : o.wp P a w K Q) : o.wpIn (Fence.wide.inRound l) n P a w K' Q := by
  refine ⟨fun _ _ => trivial, ?_⟩
  show o.uponIn _ _ _ _ _ _ ((Oper.semAt (some l) a.eval o).run P w)
  rw [Oper.semAt_some l _ _ hd]
  exact upon_in hK l n h
set_option maxRecDepth 100000 in
theorem wpOp_in {i : Nat} {a : Act} {w : World} {K K' : Act → World → Prop} (hd : ∀ (j : Nat) (o : Oper) c, ops[j]? = some o → o.op ≠ .defer c) (hQ : ¬ LetsOut Q) (hK : ∀ a w, K a w → K' a w) (l n : Nat) (h : wpOp P ops Q i K a w) :
    wpOpIn (Fence.wide.inRound l) n P ops Q i K' a w := by
  unfold wpOp at h
  unfold wpOpIn
  cases ho : ops[i]? with
  | none => rw [ho] at h; exact hK _ _ h
  | some o =>
    rw [ho] at h
    simp only at h ⊢
    by_cases hw : Region.wanted o (yielded ops a.tmps) = true
    · rw [if_pos hw] at h ⊢
      rcases h with h | ⟨_, h⟩
      · exact wp_in (fun c => hd i o c ho) hK l n h
      · exact absurd h hQ
    · rw [if_neg hw] at h ⊢
      exact ⟨fun _ _ => trivial, hK _ _ h⟩
set_option maxRecDepth 100000 in
theorem wpAny_in (hd : ∀ (j : Nat) (o : Oper) c, ops[j]? = some o → o.op ≠ .defer c) (hQ : ¬ LetsOut Q) (l n : Nat) : ∀ (fuel : Nat) (listed : Array Bool) (a : Act) (w : World), wpAny P md ops Q fuel listed a w → wpAnyIn (Fence.wide.inRound l) n P md ops Q fuel listed a w
  | 0, _, _, _, h => h
  | fuel + 1, _, _, _, h => ⟨h.1, fun i hi => wpOp_in hd hQ (fun a w h => wpAny_in hd hQ l n fuel _ a w h) l n (h.2 i hi)⟩
def noDefer (o : Oper) : Bool := match o.op with | .defer _ => false | _ => true
set_option maxRecDepth 100000 in
theorem noDefer_spec {l : List Oper} (h : l.all noDefer = true) : ∀ (j : Nat) (o : Oper) c, l.toArray[j]? = some o → o.op ≠ .defer c := fun j o c hj e => by
  have := List.all_eq_true.1 h o (List.mem_of_getElem? (by simpa using hj))
  simp [noDefer, e] at this
set_option maxRecDepth 100000 in
/-- a region that draws its order, in a round -/
theorem wpIn_region_of {id : Nat} {a : Act} {w : World} {l : List Oper} (L n : Nat) (hm : P.follows .mixedOrders = true) (hd : l.all noDefer = true) (hQ : ¬ LetsOut Q) (h : wpAny P .any l.toArray Q l.toArray.size (Array.replicate l.toArray.size false) a (w.drewN 1)) :
    (Code.region id l.toArray true).wpIn (Fence.wide.inRound L) n P Q a w := wpIn_region_any hm (wpAny_in (noDefer_spec hd) hQ L n _ _ _ _ h)
set_option maxRecDepth 100000 in
theorem wpList_in {ops : Array Oper} : ∀ (l : List Oper) (a : Act) (w : World), l.all noDefer = true → ∀ (L n : Nat), wpList P ops Q l a w → ¬ LetsOut Q → wpListIn (Fence.wide.inRound L) n P ops Q l a w
  | [], _, _, _, _, _, h, _ => h
  | o :: rest, a, w, hd, L, n, h, hQ => by
    simp only [List.all_cons, Bool.and_eq_true] at hd
    have hdo : ∀ c, o.op ≠ .defer c := fun c e => by have := hd.1; simp [noDefer, e] at this
    unfold wpList at h
    unfold wpListIn
    by_cases hw : Region.wanted o (yielded ops a.tmps) = true
    · rw [if_pos hw] at h ⊢
      exact wp_in hdo (fun a' w' h' => wpList_in rest a' w' hd.2 L n h' hQ) L n (h.resolve_right fun x => hQ x.2)
    · rw [if_neg hw] at h ⊢
      exact ⟨fun _ _ => trivial, wpList_in rest _ _ hd.2 L n h hQ⟩
end
end Go.Proofs.YtlhfdlfbnnfjjaaDoor
namespace Go.Proofs.YtlhfdlfbnnfjjaaDoor
open Go.RowKit Go.Shelf
attribute [local go_sem] Oper.semAt_some

/-- blocks below n, but for g, are as they were -/
structure KeptB (n g : Nat) (w w' : World) : Prop where
  os : w'.os = w.os
  tape : w'.tape = w.tape
  output : w'.output = w.output
  size : w.heap.size ≤ w'.heap.size
  block : ∀ k, k < n → k ≠ g → w'.heap[k]? = w.heap[k]?
set_option maxRecDepth 100000 in
theorem KeptB.refl (n g : Nat) (w : World) : KeptB n g w w := ⟨rfl, rfl, rfl, Nat.le_refl _, fun _ _ _ => rfl⟩
set_option maxRecDepth 100000 in
theorem KeptB.trans {n g : Nat} {a b c : World} (h : KeptB n g a b) (k : KeptB n g b c) : KeptB n g a c :=
  ⟨k.os.trans h.os, k.tape.trans h.tape, k.output.trans h.output, Nat.le_trans h.size k.size, fun i hi hg => (k.block i hi hg).trans (h.block i hi hg)⟩
set_option maxRecDepth 100000 in
theorem KeptB.of_grown {n g : Nat} {a b : World} {row : Option Nat} (h : a.grownBy b row) (ha : n ≤ a.heap.size) (hr : ∀ r, row = some r → n ≤ r ∨ r = g) : KeptB n g a b :=
  ⟨h.os, h.tape, h.output, h.size, fun k hk hg => h.block k (by omega) (fun e => by rcases hr k e.symm with h | h <;> omega)⟩
set_option maxRecDepth 100000 in
theorem KeptB.put {n g : Nat} {w : World} (hn : n ≤ w.heap.size) (W : World) (l : Nat) (o o' : Obj) (hl : w.heap.size ≤ l) (h : W.heap[l]? = some o) (_ : o.isCells = false) (_ : o.isWalk = false) : KeptB n g W (W.putObj l o') :=
  .of_grown (grownBy_putObj' W l o') (by have := (Array.getElem?_eq_some_iff.1 h).1; omega) (fun r e => by cases e; exact .inl (by omega))
set_option maxRecDepth 100000 in
theorem KeptB.of_below {n g : Nat} {a b : World} (h : Below n a b) : KeptB n g a b := ⟨h.os, h.tape, h.output, h.size, fun k hk _ => h.block k hk⟩
set_option maxRecDepth 100000 in
theorem KeptB.of_kept1 {n g : Nat} {a b : World} (h : Kept1 g a b) (ha : n ≤ a.heap.size) : KeptB n g a b := ⟨h.os, h.tape, h.output, h.size, fun k hk hg => h.block k (by omega) hg⟩

set_option maxRecDepth 100000 in
/-- the cells of one write among those that wait -/
theorem own_rangeW {w : World} {N g cap : Nat} {ws : List WrR} (h : w.ownsRow N 96 129 (.slice (some ⟨g, 0, none⟩) ws.length cap) ws.length (cellsW ws)) (hw : ∀ r ∈ ws, r.before.length = 64 ∧ r.after.length = 64) (i : Nat) (hi : i < ws.length) : w.rangeAt g (i * 129) ws[i].cells := fun j v hv => by
  have hj : j < 129 := by have := (List.getElem?_eq_some_iff.1 hv).1; rwa [length_cells _ (hw _ (List.getElem_mem hi)).1 (hw _ (List.getElem_mem hi)).2] at this
  rw [h.cellAt (i * 129 + j) (by have := Nat.mul_le_mul_right 129 (Nat.succ_le_of_lt hi); omega)]
  unfold cellsW
  rw [get_flat (wide_ws hw) i (by simpa using hi) j hj]
  simpa using hv

set_option maxRecDepth 100000 in
theorem wpListIn_run {n : Nat} {P : Program} {ops : Array Oper} {Q : Exit → Act → World → Prop} {rest : List Oper} {o : Oper} {a : Act} {w : World} (hgd : o.guard = none) (v : Value) (w' : World) (hr : (execOp a.eval o).run P w = .ok (.value v) w')
    (h : wpListIn Fence.wide n P ops Q rest (a.put o.dst v) w') : wpListIn Fence.wide n P ops Q (o :: rest) a w := by
  unfold wpListIn
  rw [if_pos (by simp [Region.wanted, hgd])]
  refine ⟨fun _ _ => trivial, ?_⟩
  show o.uponIn _ _ _ _ _ _ ((Oper.semAt none a.eval o).run P w)
  rw [Oper.semAt_none, hr]
  exact h
end Go.Proofs.YtlhfdlfbnnfjjaaDoor
