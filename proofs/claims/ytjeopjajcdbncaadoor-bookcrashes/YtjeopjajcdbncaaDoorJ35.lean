/- The reference's cutting of bytes: how many parts; A book beside a row of records that are wanted; Calls that came in: how few they are. -/
import Derived.Test.YtjeopjajcdbncaaDoorJ34
import Derived.Test.YtjeopjajcdbncaaDoorJ24
namespace Go.Proofs.YtjeopjajcdbncaaDoor
open Go.RowKit

set_option maxRecDepth 100000 in
theorem slice_mid (ad : Option Addr) (len cap i m : Nat) (h1 : i ≤ m) (h2 : m ≤ cap) : ∃ ad', ∀ w, (Instr.sliceAt 32 (.slice ad len cap) (some (.int .i64 (i : Int))) (some (.int .i64 (m : Int))) none).run Tryd.prog w = .ok (.slice ad' (m - i) (cap - i)) w := by
  refine ⟨if cap = i then ad else ad.map (·.add (i * 1)), fun w => ?_⟩
  have e3 : ∀ w, (sizeOf 5).run Tryd.prog w = .ok 1 w := fun _ => by kernel_rfl
  have e1 : Tryd.prog.elem 32 = 5 := by kernel_rfl
  rw [run_sliceAt_slice (P := Tryd.prog) w 32 _ _ _ _ (by kernel_rfl), run_slice_lh (P := Tryd.prog) w 32 ad len cap (by kernel_rfl) .i64 .i64 i m (by omega) (by omega) (by omega), e1, e3]
  simp [sliced, Result.andThen]
structure RCutRel (w : World) (k : Nat) (X : List Value) (v : Value) (wr : World) : Prop where
  own : wr.ownsRow w.heap.size 32 1 v k X
  below : Below w.heap.size w wr
set_option maxRecDepth 100000 in
set_option maxHeartbeats 2000000 in
theorem refCut_any (w : World) (ad : Option Addr) (n cap : Nat) (hcap : n ≤ cap) (hn : n ≤ 100000) :
    Calls Tryd.prog 11 #[.slice ad n cap] w fun e w' => ∃ a c, e = .returned (.slice a (nParts n) c) ∧ Below w.heap.size w w' := by
  obtain ⟨i0, hi, hz0, hz1, hz2⟩ := info_parts info_row
  have R0 : RCutRel w 0 [] (.slice none 0 0) w := ⟨World.ownsRow_nil _ _ _ _, Below.refl _ _⟩
  obtain ⟨M, hM⟩ : ∃ M, nParts n = M := ⟨_, rfl⟩
  have hM1 : ∀ k, 1 ≤ k → (52 * k < n ↔ k < M) := fun k hk => by rw [← hM]; unfold nParts; omega
  have hMpos : 0 < M := by rw [← hM]; unfold nParts; omega
  have hMle : M ≤ 2000 := by rw [← hM]; unfold nParts; omega
  rw [hM]
  have HM1 := Lib.hid hM1
  clear hM hM1
  go_enter Tryd.func11, Tryd.ntmps11
  go_wp2_with fail
  go_loopw [3, 4] (fun v i wr => ∃ (k j : Nat) (X : List Value), k ≤ M ∧ j = 52 * k ∧ i = .int .i64 (j : Int) ∧ RCutRel w k X v wr) (fun _ i _ => 52 * M - (intOf i).toNat)
  case atStart => exact ⟨0, 0, [], by omega, rfl, rfl, R0⟩
  case round =>
    clear R0
    obtain ⟨k, j, X, hk, hj, rfl, hr⟩ := hrel
    by_cases hlt : k < M
    · have hjn : j = 0 ∨ j < n := by
        rcases Nat.eq_zero_or_pos k with h | h
        · left; omega
        · right; rw [hj]; exact (HM1.out k h).2 hlt
      obtain ⟨m, hm⟩ : ∃ m, min (j + 52) n = m := ⟨_, rfl⟩
      have hmj : j ≤ m ∧ m ≤ cap := by omega
      obtain ⟨ad', hsl⟩ := slice_mid ad n cap j m hmj.1 hmj.2
      have HR := Lib.hid hr
      have hbase := hr.below.size
      clear hr
      obtain ⟨z, hz⟩ : ∃ z, ((j : Int) == 0) = z := ⟨_, rfl⟩
      have hd2 : z = false → decide ((j : Int) < (n : Int)) = true := fun e => by
        subst e
        have : (j : Int) ≠ 0 := by simpa using hz
        simp; omega
      have hlt52 : j ≤ 200000 := by omega
      have hmin : (m = n ∧ n < j + 52) ∨ (m = j + 52 ∧ j + 52 ≤ n) := by omega
      clear hm hmj
      have HO1 := Lib.hid (fun V : Value => own_same (w' := wr.alloc (.cells #[V] 32)) HR.out.own fun g hg => (Below.heap_alloc _ _ _ (HR.out.own.lt g hg).2))
      have HJ := Lib.hid hj
      have HJN := Lib.hid hjn
      clear hj hjn
      rcases hmin with ⟨rfl, hmm⟩ | ⟨rfl, hmm⟩ <;> cases z
      · have dm : decide ((m : Int) < (j : Int) + 52) = true := by simp; omega
        have hjl : j < m := by rcases HJN.out with h | h
                               · subst h; cases hz
                               · exact h
        have hd3 : decide (j < m) = true := by simpa using hjl
        have hd4 : decide ((j : Int) < (m : Int)) = true := by simp; omega
        clear hd2
        go_wp2_with (at_builtin; refine wpList_append_lies _ rfl (.tmp 15) (.tmp 24) 31 rfl w.heap.size 32 i0 (.slice none 0 0) 1 24 Tryd.underlying31 hi hz0 hz1 hz2 rfl (by decide) _ k X rfl (HO1.out _) ⟨wr.heap.size, 0, none⟩ 1 1 [.slice ad' (m - j) (cap - j)] rfl rfl ?q1 ?q2 (by decide) (by unfold maxLen; omega) (by omega) (by simp; omega) _ rfl ?_)
        case q2 => intro u hu; obtain rfl := List.mem_singleton.1 hu; rfl
        case q1 =>
          intro jj u hjj
          rw [Addr.add_mid, Nat.zero_add, cell_block (heap_alloc_new wr _)]
          simpa using hjj
        intro g c w1 hown hgrow hg hglt
        have hb : Below w.heap.size w w1 := ((HR.out.below).alloc hbase _).grown hgrow (by simp; omega) (fun q hq => (HR.out.own.lt q hq).1)
        have R1 : RCutRel w (k + 1) (X ++ [_]) _ w1 := ⟨hown, hb⟩
        have HR1 := Lib.hid R1
        clear R1 hown hgrow hg hglt hb HO1
        go_wp2_with fail
        go_roundw
        case rel => exact ⟨k + 1, j + 52, _, by omega, by have := HJ.out; omega, by go_num, HR1.out⟩
        case measure => simp [intOf]; have := HJ.out; omega
      · have dm : decide ((m : Int) < (j : Int) + 52) = true := by simp; omega
        clear hd2
        go_wp2_with (at_builtin; refine wpList_append_lies _ rfl (.tmp 15) (.tmp 24) 31 rfl w.heap.size 32 i0 (.slice none 0 0) 1 24 Tryd.underlying31 hi hz0 hz1 hz2 rfl (by decide) _ k X rfl (HO1.out _) ⟨wr.heap.size, 0, none⟩ 1 1 [.slice ad' (m - j) (cap - j)] rfl rfl ?q1 ?q2 (by decide) (by unfold maxLen; omega) (by omega) (by simp; omega) _ rfl ?_)
        case q2 => intro u hu; obtain rfl := List.mem_singleton.1 hu; rfl
        case q1 =>
          intro jj u hjj
          rw [Addr.add_mid, Nat.zero_add, cell_block (heap_alloc_new wr _)]
          simpa using hjj
        intro g c w1 hown hgrow hg hglt
        have hb : Below w.heap.size w w1 := ((HR.out.below).alloc hbase _).grown hgrow (by simp; omega) (fun q hq => (HR.out.own.lt q hq).1)
        have R1 : RCutRel w (k + 1) (X ++ [_]) _ w1 := ⟨hown, hb⟩
        have HR1 := Lib.hid R1
        clear R1 hown hgrow hg hglt hb HO1
        go_wp2_with fail
        go_roundw
        case rel => exact ⟨k + 1, j + 52, _, by omega, by have := HJ.out; omega, by go_num, HR1.out⟩
        case measure => simp [intOf]; have := HJ.out; omega
      · have dm : decide ((n : Int) < (j : Int) + 52) = false := by simp; omega
        have hsl2 : ∀ w, (Instr.sliceAt 32 (.slice ad n cap) (some (.int .i64 (j : Int))) (some (.int .i64 ((j : Int) + 52))) none).run Tryd.prog w = .ok (.slice ad' 52 (cap - j)) w := fun w => by have := hsl w; rwa [show ((j + 52 : Nat) : Int) = (j : Int) + 52 by omega, show j + 52 - j = 52 by omega] at this
        clear hsl
        have hjl : j < n := by rcases HJN.out with h | h
                               · subst h; cases hz
                               · exact h
        have hd3 : decide (j < n) = true := by simpa using hjl
        have hd4 : decide ((j : Int) < (n : Int)) = true := by simp; omega
        clear hd2
        go_wp2_with (at_builtin; refine wpList_append_lies _ rfl (.tmp 15) (.tmp 24) 31 rfl w.heap.size 32 i0 (.slice none 0 0) 1 24 Tryd.underlying31 hi hz0 hz1 hz2 rfl (by decide) _ k X rfl (HO1.out _) ⟨wr.heap.size, 0, none⟩ 1 1 [.slice ad' 52 (cap - j)] rfl rfl ?q1 ?q2 (by decide) (by unfold maxLen; omega) (by omega) (by simp; omega) _ rfl ?_)
        case q2 => intro u hu; obtain rfl := List.mem_singleton.1 hu; rfl
        case q1 =>
          intro jj u hjj
          rw [Addr.add_mid, Nat.zero_add, cell_block (heap_alloc_new wr _)]
          simpa using hjj
        intro g c w1 hown hgrow hg hglt
        have hb : Below w.heap.size w w1 := ((HR.out.below).alloc hbase _).grown hgrow (by simp; omega) (fun q hq => (HR.out.own.lt q hq).1)
        have R1 : RCutRel w (k + 1) (X ++ [_]) _ w1 := ⟨hown, hb⟩
        have HR1 := Lib.hid R1
        clear R1 hown hgrow hg hglt hb HO1
        go_wp2_with fail
        go_roundw
        case rel => exact ⟨k + 1, j + 52, _, by omega, by have := HJ.out; omega, by go_num, HR1.out⟩
        case measure => simp [intOf]; have := HJ.out; omega
      · have dm : decide ((n : Int) < (j : Int) + 52) = false := by simp; omega
        have hsl2 : ∀ w, (Instr.sliceAt 32 (.slice ad n cap) (some (.int .i64 (j : Int))) (some (.int .i64 ((j : Int) + 52))) none).run Tryd.prog w = .ok (.slice ad' 52 (cap - j)) w := fun w => by have := hsl w; rwa [show ((j + 52 : Nat) : Int) = (j : Int) + 52 by omega, show j + 52 - j = 52 by omega] at this
        clear hsl
        clear hd2
        go_wp2_with (at_builtin; refine wpList_append_lies _ rfl (.tmp 15) (.tmp 24) 31 rfl w.heap.size 32 i0 (.slice none 0 0) 1 24 Tryd.underlying31 hi hz0 hz1 hz2 rfl (by decide) _ k X rfl (HO1.out _) ⟨wr.heap.size, 0, none⟩ 1 1 [.slice ad' 52 (cap - j)] rfl rfl ?q1 ?q2 (by decide) (by unfold maxLen; omega) (by omega) (by simp; omega) _ rfl ?_)
        case q2 => intro u hu; obtain rfl := List.mem_singleton.1 hu; rfl
        case q1 =>
          intro jj u hjj
          rw [Addr.add_mid, Nat.zero_add, cell_block (heap_alloc_new wr _)]
          simpa using hjj
        intro g c w1 hown hgrow hg hglt
        have hb : Below w.heap.size w w1 := ((HR.out.below).alloc hbase _).grown hgrow (by simp; omega) (fun q hq => (HR.out.own.lt q hq).1)
        have R1 : RCutRel w (k + 1) (X ++ [_]) _ w1 := ⟨hown, hb⟩
        have HR1 := Lib.hid R1
        clear R1 hown hgrow hg hglt hb HO1
        go_wp2_with fail
        go_roundw
        case rel => exact ⟨k + 1, j + 52, _, by omega, by have := HJ.out; omega, by go_num, HR1.out⟩
        case measure => simp [intOf]; have := HJ.out; omega
    · obtain rfl : k = M := by omega
      have hz : ((j : Int) == 0) = false := by simp; omega
      have hjl : ¬ j < n := by have := (HM1.out k (by omega)).1; omega
      have hd2 : decide (j < n) = false := by simpa using hjl
      have hd4 : decide ((j : Int) < (n : Int)) = false := by simp; omega
      have HR := Lib.hid hr
      clear hr hj
      obtain ⟨a, c, rfl⟩ : ∃ a c, u3 = .slice a k c := by
        rcases HR.out.own.2 with ⟨rfl, hn⟩ | ⟨g, cap, cur, rfl, _⟩
        · omega
        · exact ⟨_, _, rfl⟩
      go_wp2_with fail
      go_ret
      exact ⟨a, c, rfl, HR.out.below⟩
end Go.Proofs.YtjeopjajcdbncaaDoor
namespace Go.Proofs.YtjeopjajcdbncaaDoor
open Go.RowKit

structure CrM (w : World) (N d gs : Nat) (v : Value) (s : DSt) (b : Nat) (ra : Value) (ps : List Part) (room gen : Nat) (o : Bool) (ws : List Part) (wv : Value) (wr : World) : Prop where
  both : Both wr N d gs v s b ra ps room gen o
  row : wr.ownsRow N 32 1 wv ws.length (ws.map Part.val)
  wins : ∀ p ∈ ws, p.In w
  wnil : ∀ p ∈ ws, p.ad = none → p.cap = 0
  wlen : ∀ p ∈ ws, p.l.length ≤ 4096
  ap1 : ∀ g, wv.ownBlock = some g → ¬ J b ra d gs v g
  ap2 : ∀ p ∈ ps, p.l ≠ [] → wv.ownBlock ≠ some p.g
  below : Below w.heap.size w wr
  wN : w.heap.size ≤ N
set_option maxRecDepth 100000 in
theorem CrM.more {w : World} {N d gs : Nat} {v : Value} {s : DSt} {b : Nat} {ra : Value} {ps : List Part} {room gen : Nat} {o : Bool} {ws : List Part} {wv : Value} {wr w' : World} (h : CrM w N d gs v s b ra ps room gen o ws wv wr) (hb : Below wr.heap.size wr w') : CrM w N d gs v s b ra ps room gen o ws wv w' :=
  ⟨h.both.below hb, own_same h.row fun g hg => hb.block g (h.row.lt g hg).2, h.wins, h.wnil, h.wlen, h.ap1, h.ap2, h.below.trans (hb.mono h.below.size), h.wN⟩
set_option maxRecDepth 100000 in
/-- a call on the book: what it turns is the book's and the disk's -/
theorem CrM.call {w : World} {N d gs : Nat} {v : Value} {s : DSt} {b : Nat} {ra : Value} {ps : List Part} {room gen : Nat} {o : Bool} {ws : List Part} {wv : Value} {wr w' : World} (h : CrM w N d gs v s b ra ps room gen o ws wv wr)
    {v' : Value} {s' : DSt} {b' : Nat} {ra' : Value} {ps' : List Part} {room' gen' : Nat} {o' : Bool} (hbo : Both w' N d gs v' s' b' ra' ps' room' gen' o') (hk : KeptF (J b ra d gs v) wr w') (hj : ∀ j, J b' ra' d gs v' j → J b ra d gs v j ∨ wr.heap.size ≤ j) (hp : ∀ x ∈ ps', x.l ≠ [] → x ∈ ps ∨ wr.heap.size ≤ x.g) :
    CrM w N d gs v' s' b' ra' ps' room' gen' o' ws wv w' := by
  refine ⟨hbo, own_same h.row fun g hg => hk.block g (h.row.lt g hg).2 (h.ap1 g hg), h.wins, h.wnil, h.wlen, fun g hg hj' => ?_, fun p hp' hne e => ?_, KeptF.mono h.below hk (Nat.le_refl _) (fun k hk' => by have := (h.both.jlt hk').1; have := h.wN; omega), h.wN⟩
  · rcases hj g hj' with h1 | h1
    · exact h.ap1 g hg h1
    · have := (h.row.lt g hg).2; omega
  · rcases hp p hp' hne with h1 | h1
    · exact h.ap2 p h1 hne e
    · have := (h.row.lt _ e).2; omega
set_option maxRecDepth 100000 in
/-- one more record is wanted -/
theorem CrM.want {w : World} {N d gs : Nat} {v : Value} {s : DSt} {b : Nat} {ra : Value} {ps : List Part} {room gen : Nat} {o : Bool} {ws : List Part} {wv : Value} {wr w1 : World} (h : CrM w N d gs v s b ra ps room gen o ws wv wr) (p : Part) (hp : p.In w) (hpn : p.ad = none → p.cap = 0) (hpl : p.l.length ≤ 4096)
    {C : Array Value} {t : TypeId} {g c : Nat} (hown : w1.ownsRow N 32 1 (.slice (some ⟨g, 0, none⟩) (ws.length + 1) c) (ws.length + 1) (ws.map Part.val ++ [p.val])) (hgrow : (wr.alloc (.cells C t)).grownBy w1 wv.ownBlock) (hg : wv.ownBlock = some g ∨ g = wr.heap.size + 1) :
    CrM w N d gs v s b ra ps room gen o (ws ++ [p]) (.slice (some ⟨g, 0, none⟩) (ws.length + 1) c) w1 := by
  have hk : KeptF (fun k => wv.ownBlock = some k) wr w1 := (KeptF.of_below ((Below.refl wr.heap.size wr).alloc (Nat.le_refl _) _)).trans (KeptF.of_grown (F := fun k => wv.ownBlock = some k) hgrow fun k hk => hk) fun _ _ h => h
  refine ⟨h.both.kept hk (fun k hj hw => h.ap1 k hw hj) (fun q hq hne hw => h.ap2 q hq hne hw), ?_, ?_, ?_, ?_, fun q hq hj => ?_, fun q hq hne e => ?_, KeptF.mono h.below hk (Nat.le_refl _) (fun k hk' => by have := (h.row.lt k hk').1; have := h.wN; omega), h.wN⟩
  · rw [List.length_append, List.length_singleton, List.map_append]; exact hown
  · intro x hx
    rcases List.mem_append.1 hx with hx | hx
    · exact h.wins x hx
    · obtain rfl := List.mem_singleton.1 hx; exact hp
  · intro x hx
    rcases List.mem_append.1 hx with hx | hx
    · exact h.wnil x hx
    · obtain rfl := List.mem_singleton.1 hx; exact hpn
  · intro x hx
    rcases List.mem_append.1 hx with hx | hx
    · exact h.wlen x hx
    · obtain rfl := List.mem_singleton.1 hx; exact hpl
  · obtain rfl : g = q := Option.some.inj hq
    rcases hg with hg | hg
    · exact h.ap1 g hg hj
    · have := (h.both.jlt hj).2; omega
  · obtain rfl : g = q.g := Option.some.inj e
    rcases hg with hg | hg
    · exact h.ap2 q hq hne hg
    · have := (h.both.ins q hq).lt; omega
set_option maxRecDepth 100000 in
/-- the wanted records as a slice -/
theorem CrM.wslice {w : World} {N d gs : Nat} {v : Value} {s : DSt} {b : Nat} {ra : Value} {ps : List Part} {room gen : Nat} {o : Bool} {ws : List Part} {wv : Value} {wr : World} (h : CrM w N d gs v s b ra ps room gen o ws wv wr) :
    ∃ ap gp cp, wv = .slice ap ws.length cp ∧ PartsIn wr ap gp 0 ws := parts_of_row h.row (fun p hp => (h.wins p hp).below h.below) (by have := lt_block h.both.blk; omega)
set_option maxRecDepth 100000 in
theorem folded_txs (ps qs : List Part) (P : List UInt8) (h : txs ps = txs qs) : folded P ps = folded P qs := by
  have e : ∀ (ps : List Part) (P : List UInt8), folded P ps = (txs ps).foldl (fun Q l => lnk Q l) P := by
    intro ps
    induction ps with
    | nil => intro P; rfl
    | cons p ps ih => intro P; exact ih _
  rw [e, e, h]
/-- what was cut off -/
structure Cut (w : World) (s : DSt) (room gen : Nat) (rs : List (List UInt8)) (cv : Value) : Prop where
  ex : ∃ (c : Part) (s0 : DSt) (k : Nat), cv = c.val ∧ c.In w ∧ (c.ad = none → c.cap = 0) ∧ c.l.length ≤ 4096 ∧ s0.ws = [] ∧ BInv s0.S gen room rs ∧ nParts c.l.length ≤ room ∧ k ≤ nParts c.l.length ∧ s = wrN s0 (s0.S.length - room) rs.length gen c.l k ∧ s.gone = true
/-- between two calls -/
structure CrP (w : World) (k : Nat) (s : DSt) (room gen : Nat) (o : Bool) (rs : List (List UInt8)) (cv : Value) : Prop where
  clean : o = false → s.ws = [] ∧ BInv s.S gen room rs
  cut : o = true → Cut w s room gen rs cv
  hg : gen ≤ k + 1
  hr : rs.length ≤ k
  h300 : s.S.length = 300
  fu : s.fuse ≤ 9223372036854775807
set_option maxRecDepth 100000 in
theorem CrP.waits {w : World} {k : Nat} {s : DSt} {room gen : Nat} {o : Bool} {rs : List (List UInt8)} {cv : Value} (h : CrP w k s room gen o rs cv) : s.ws.length ≤ 100 := by
  cases o with
  | false => rw [(h.clean rfl).1]; simp
  | true =>
    obtain ⟨c, s0, j, _, _, _, hl, h0, _, _, hj, e, _⟩ := (h.cut rfl).ex
    have h1 := (wrN_len s0 (s0.S.length - room) rs.length gen c.l j).2.1
    have h2 := nParts_le _ hl
    rw [e, h1, h0]
    simp; omega
set_option maxRecDepth 100000 in
theorem CrP.room_le {w : World} {k : Nat} {s : DSt} {room gen : Nat} {o : Bool} {rs : List (List UInt8)} {cv : Value} (h : CrP w k s room gen o rs cv) : room ≤ s.S.length := by
  cases o with
  | false => exact (h.clean rfl).2.room_le
  | true =>
    obtain ⟨c, s0, j, _, _, _, hl, h0, hb, _, hj, e, _⟩ := (h.cut rfl).ex
    have h1 := (wrN_len s0 (s0.S.length - room) rs.length gen c.l j).1
    rw [e, h1]
    exact hb.room_le
set_option maxRecDepth 100000 in
/-- behind an Append -/
theorem CrP.append {w : World} {k : Nat} {s : DSt} {room gen : Nat} {o : Bool} {rs : List (List UInt8)} {cv : Value} (h : CrP w k s room gen o rs cv) (hk : k ≤ 100) (p : Part) (hp : p.In w) (hpn : p.ad = none → p.cap = 0) {c : Int} {s' : DSt} {rs' : List (List UInt8)} {room' : Nat} {o' : Bool}
    (ha : AppP s rs room gen o p.l c s' rs' room' o') : CrP w (k + 1) s' room' gen o' rs' (if o then cv else p.val) ∧ ((c = 0 ∧ rs' = rs ++ [p.l] ∧ o = false ∧ o' = false ∧ p.l.length ≤ 4096) ∨ (c ≠ 0 ∧ c ≠ 5 ∧ rs' = rs ∧ o = false ∧ o' = false) ∨ (c = 5 ∧ rs' = rs ∧ o' = true)) := by
  have hg := h.hg
  have hr := h.hr
  cases ha with
  | over ho =>
    subst ho
    exact ⟨⟨(fun e => by cases e), fun _ => h.cut rfl, by omega, by omega, h.h300, h.fu⟩, .inr (.inr ⟨rfl, rfl, rfl⟩)⟩
  | long ho _ =>
    subst ho
    exact ⟨⟨fun _ => h.clean rfl, (fun e => by cases e), by omega, by omega, h.h300, h.fu⟩, .inr (.inl ⟨by omega, by omega, rfl, rfl, rfl⟩)⟩
  | full ho _ _ =>
    subst ho
    exact ⟨⟨fun _ => h.clean rfl, (fun e => by cases e), by omega, by omega, h.h300, h.fu⟩, .inr (.inl ⟨by omega, by omega, rfl, rfl, rfl⟩)⟩
  | done ho hl hrm hgo =>
    subst ho
    have h1 := (h.clean rfl).2.append hl hrm (by omega) (by omega)
    obtain ⟨e1, _, e3⟩ := wrN_len s (s.S.length - room) rs.length gen p.l (nParts p.l.length)
    have hfu := h.fu
    exact ⟨⟨fun _ => ⟨rfl, h1⟩, (fun e => by cases e), by omega, by rw [List.length_append, List.length_singleton]; omega, e1.trans h.h300, by show (wrN _ _ _ _ _ _).fuse ≤ _; omega⟩, .inl ⟨rfl, rfl, rfl, rfl, hl⟩⟩
  | lost ho hl hrm j hj hgo =>
    subst ho
    obtain ⟨e1, _, e3⟩ := wrN_len s (s.S.length - room) rs.length gen p.l j
    have hfu := h.fu
    exact ⟨⟨(fun e => by cases e), fun _ => ⟨⟨p, s, j, rfl, hp, hpn, hl, (h.clean rfl).1, (h.clean rfl).2, hrm, hj, rfl, hgo⟩⟩, by omega, by omega, e1.trans h.h300, by omega⟩, .inr (.inr ⟨rfl, rfl, rfl⟩)⟩
set_option maxRecDepth 100000 in
/-- an Append that was refused leaves what was cut off as it was -/
theorem CrP.refuse {w : World} {k : Nat} {s s' : DSt} {room gen room' : Nat} {rs rs' : List (List UInt8)} {cv cv' : Value} (_ : CrP w k s room gen false rs cv) (h : CrP w (k + 1) s' room' gen false rs' cv') (_ : rs' = rs) : CrP w (k + 1) s' room' gen false rs' cv :=
  ⟨h.clean, (fun e => by cases e), h.hg, h.hr, h.h300, h.fu⟩
set_option maxRecDepth 100000 in
/-- behind a Fuse -/
theorem CrP.fuse {w : World} {k : Nat} {s : DSt} {room gen : Nat} {o : Bool} {rs : List (List UInt8)} {cv : Value} (h : CrP w k s room gen o rs cv) (n : Int) (hn : n ≤ 9223372036854775807) (hgo : s.gone = false) : CrP w (k + 1) { s with fuse := max n 0, gone := n == 0 } room gen o rs cv := by
  have hg := h.hg
  have hr := h.hr
  cases o with
  | false => exact ⟨fun _ => h.clean rfl, (fun e => by cases e), by omega, by omega, h.h300, by show max n 0 ≤ _; omega⟩
  | true =>
    obtain ⟨c, s0, j, _, _, _, _, _, _, _, _, _, hgt⟩ := (h.cut rfl).ex
    rw [hgo] at hgt; cases hgt
set_option maxRecDepth 100000 in
theorem CrP.later {w : World} {k : Nat} {s : DSt} {room gen : Nat} {o : Bool} {rs : List (List UInt8)} {cv : Value} (h : CrP w k s room gen o rs cv) : CrP w (k + 1) s room gen o rs cv :=
  ⟨h.clean, h.cut, by have := h.hg; omega, by have := h.hr; omega, h.h300, h.fu⟩
set_option maxRecDepth 100000 in
/-- behind a Crash, and Open -/
theorem CrP.crash {w : World} {k : Nat} {s : DSt} {room gen : Nat} {o : Bool} {rs : List (List UInt8)} {cv : Value} (h : CrP w k s room gen o rs cv) (hk : k ≤ 100) (bs : List Bool) :
    greatG ((s.crash bs).S.map rdS) ≤ gen ∧ ∀ rs' T l', Reads ((s.crash bs).S.map rdS) 1 1 rs' T l' → Stop T (rs'.length + 1) l' → (rs' = rs ∨ (o = true ∧ ∃ c : Part, cv = c.val ∧ c.In w ∧ (c.ad = none → c.cap = 0) ∧ c.l.length ≤ 4096 ∧ rs' = rs ++ [c.l])) ∧ CrP w (k + 1) (s.crash bs) T.length (greatG ((s.crash bs).S.map rdS) + 1) false rs' cv := by
  have hg := h.hg
  have hr := h.hr
  have hlen : (s.crash bs).S.length = 300 := (crash_len s bs).trans h.h300
  have key : (∀ x ∈ (s.crash bs).S.map rdS, x.1.g ≤ gen) ∧ ∀ rs' T l', Reads ((s.crash bs).S.map rdS) 1 1 rs' T l' → Stop T (rs'.length + 1) l' → (rs' = rs ∨ (o = true ∧ ∃ c : Part, cv = c.val ∧ c.In w ∧ (c.ad = none → c.cap = 0) ∧ c.l.length ≤ 4096 ∧ rs' = rs ++ [c.l])) := by
    cases o with
    | false =>
      obtain ⟨hws, hb⟩ := h.clean rfl
      have e : (s.crash bs).S = s.S := by
        unfold DSt.crash
        rw [hws]
        cases bs <;> simp [redoL, undoL]
      rw [e]
      exact ⟨hb.gens, fun rs' T l' h1 h2 => .inl (hb.same h1 h2)⟩
    | true =>
      obtain ⟨c, s0, j, hcv, hci, hcn, hl, h0, hb, hrm, hj, e, _⟩ := (h.cut rfl).ex
      have h1 := hb.crash (bs := bs) h0 hl hrm hj (by omega) (by omega)
      rw [← e] at h1
      refine ⟨h1.1, fun rs' T l' h2 h3 => ?_⟩
      rcases h1.2 rs' T l' h2 h3 with h4 | h4
      · exact .inl h4
      · exact .inr ⟨rfl, c, hcv, hci, hcn, hl, h4⟩
  have hgr := greatG_bound _ _ key.1
  refine ⟨hgr, fun rs' T l' h1 h2 => ⟨key.2 rs' T l' h1 h2, ⟨fun _ => ⟨rfl, BInv.opened h1 h2⟩, (fun e => by cases e), by omega, ?_, hlen, by show (0 : Int) ≤ _; omega⟩⟩⟩
  rcases key.2 rs' T l' h1 h2 with h3 | ⟨_, c, _, _, _, _, h3⟩
  · rw [h3]; omega
  · rw [h3, List.length_append, List.length_singleton]; omega
end Go.Proofs.YtjeopjajcdbncaaDoor
namespace Go.Proofs.YtjeopjajcdbncaaDoor
open Go.RowKit

/-- a call: its kind, its number, its bytes, its pick -/
structure COp where
  kc : Int
  n : Int
  p : Part
  pa : Option Addr
  pg : Nat
  po : Nat
  pc : Nat
  bs : List Bool
def COp.cells (x : COp) : List Value := [.int .u8 x.kc, .int .i64 x.n, x.p.val, .slice x.pa x.bs.length x.pc]
structure COpOk (w : World) (x : COp) : Prop where
  k0 : 0 ≤ x.kc
  k1 : x.kc < 256
  n1 : x.n ≤ 9223372036854775807
  inn : x.p.In w
  nil : x.p.ad = none → x.p.cap = 0
  most : x.p.l.length ≤ maxLen
  pmost : x.bs.length ≤ maxLen
  pad : x.bs ≠ [] → x.pa = some ⟨x.pg, x.po, none⟩
  pcell : ∀ j, (h : j < x.bs.length) → w.cell? ⟨x.pg, x.po + j, none⟩ = some (.bool x.bs[j])
structure OpsAt (w : World) (ad : Option Addr) (g o : Nat) (l : List COp) : Prop where
  addr : l ≠ [] → ad = some ⟨g, o, none⟩
  cell : ∀ i, (h : i < l.length) → ∀ j, j < 4 → w.cell? ⟨g, o + i * 4 + j, none⟩ = (l[i].cells)[j]?
set_option maxRecDepth 100000 in
theorem OpsAt.below {w w' : World} {ad : Option Addr} {g o : Nat} {l : List COp} (h : OpsAt w ad g o l) (hb : Below w.heap.size w w') : OpsAt w' ad g o l :=
  ⟨h.addr, fun i hi j hj => by
    have h1 := h.cell i hi j hj
    have h2 : ∃ v, (l[i].cells)[j]? = some v := ⟨_, List.getElem?_eq_getElem (by simpa [COp.cells] using hj)⟩
    obtain ⟨v, hv⟩ := h2
    rw [hv] at h1 ⊢
    rw [hb.cell (by exact block_lt_of_cell h1)]
    exact h1⟩
set_option maxRecDepth 100000 in
set_option maxHeartbeats 1000000 in
theorem few6_any (w : World) (ad : Option Addr) (g o cap : Nat) (l : List COp) (h : OpsAt w ad g o l) (hm : l.length ≤ maxLen) (hok : ∀ x ∈ l, x.p.l.length ≤ maxLen ∧ x.bs.length ≤ maxLen) :
    Calls Tryd.prog 8 #[.slice ad l.length cap, .int .i64 30] w fun e w' => ∃ r : Bool, e = .returned (.bool r) ∧ w = w' ∧ (r = true → l.length ≤ 30 ∧ ∀ x ∈ l, x.p.l.length ≤ 5000 ∧ x.bs.length ≤ 200) := by
  have H := Lib.hid h
  have HM := Lib.hid hok
  unfold maxLen at hm
  have s4 : ∀ w, (sizeOf 35).run Tryd.prog w = .ok 4 w := fun _ => by kernel_rfl
  clear h hok
  go_enter Tryd.func8, Tryd.ntmps8
  go_wp2_with fail
  go_loopw [5] (fun i wr => ∃ k : Nat, k ≤ l.length ∧ k ≤ 100 ∧ i = .int .i64 k ∧ (∀ j, (h : j < l.length) → j < k → l[j].p.l.length ≤ 5000 ∧ l[j].bs.length ≤ 200) ∧ w = wr) (fun i _ => l.length - (intOf i).toNat)
  case atStart => exact ⟨0, by omega, by omega, rfl, fun j _ h => by omega, rfl⟩
  case round =>
    obtain ⟨k, hk, hk100, rfl, hall, rfl⟩ := hrel
    have HAll := Lib.hid hall
    clear hall
    by_cases hlt : k < l.length
    · have hd : decide ((k : Int) < (l.length : Int)) = true := by simp; omega
      have hdn : decide (k < l.length) = true := by simpa using hlt
      by_cases h100 : k < 100
      · have hd2 : decide ((k : Int) < 100) = true := by simp; omega
        obtain rfl := H.out.addr (by intro e; rw [e] at hlt; cases hlt)
        have c2 := H.out.cell k hlt 2 (by omega)
        have c3 := H.out.cell k hlt 3 (by omega)
        have hmx := HM.out l[k] (List.getElem_mem hlt)
        have HS : Hid (l[k].p.l.length ≤ 5000 → l[k].bs.length ≤ 200 → ∀ j, (h : j < l.length) → j < k + 1 → l[j].p.l.length ≤ 5000 ∧ l[j].bs.length ≤ 200) := Lib.hid fun h1 h2 j hj hjk => by
          rcases Nat.lt_or_ge j k with h | h
          · exact HAll.out j hj h
          · obtain rfl : j = k := by omega
            exact ⟨h1, h2⟩
        unfold COp.cells Part.val at c2 c3
        simp only [List.getElem?_cons_succ, List.getElem?_cons_zero] at c2 c3
        generalize l[k] = x at *
        obtain ⟨a, ha⟩ : ∃ a, x.p.l.length = a := ⟨_, rfl⟩
        obtain ⟨bb, hbb⟩ : ∃ a, x.bs.length = a := ⟨_, rfl⟩
        rw [ha] at c2 hmx HS
        rw [hbb] at c3 hmx HS
        unfold maxLen at hmx
        clear ha hbb
        by_cases h1 : 5000 < a
        · have hd3 : decide ((5000 : Int) < (a : Int)) = true := by simp; omega
          go_wp2_with fail
          go_ret
          exact ⟨false, rfl, rfl, fun e => by cases e⟩
        · have hd3 : decide ((5000 : Int) < (a : Int)) = false := by simp; omega
          by_cases h2 : 200 < bb
          · have hd4 : decide ((200 : Int) < (bb : Int)) = true := by simp; omega
            go_wp2_with fail
            go_ret
            exact ⟨false, rfl, rfl, fun e => by cases e⟩
          · have hd4 : decide ((200 : Int) < (bb : Int)) = false := by simp; omega
            have HS2 := Lib.hid (HS.out (by omega) (by omega))
            go_wp2_with fail
            go_roundw
            case rel => exact ⟨k + 1, by omega, by omega, by go_num, HS2.out, trivial⟩
            case measure => simp [intOf]; omega
      · have hd2 : decide ((k : Int) < 100) = false := by simp; omega
        have hd5 : decide ((l.length : Int) ≤ 30) = false := by simp; omega
        go_wp2_with fail
        go_ret
        exact ⟨false, rfl, rfl, fun e => by cases e⟩
    · have hd : decide ((k : Int) < (l.length : Int)) = false := by simp; omega
      have hdn : decide (k < l.length) = false := by simpa using hlt
      obtain rfl : k = l.length := by omega
      obtain ⟨r, hr⟩ : ∃ r, decide ((l.length : Int) ≤ 30) = r := ⟨_, rfl⟩
      have HR := Lib.hid hr
      go_wp2_with fail
      go_ret
      refine ⟨r, rfl, rfl, fun e => ?_⟩
      subst e
      have := of_decide_eq_true HR.out
      refine ⟨by omega, fun x hx => ?_⟩
      obtain ⟨j, hj, rfl⟩ := List.getElem_of_mem hx
      exact HAll.out j hj hj
end Go.Proofs.YtjeopjajcdbncaaDoor
