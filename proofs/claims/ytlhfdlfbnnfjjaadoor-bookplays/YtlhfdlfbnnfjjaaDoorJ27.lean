/- New; All sectors of a disk, read; The greatest generation that any sector says. -/
import Derived.Test.YtlhfdlfbnnfjjaaDoorJ23
import Derived.Deep.OwnRows
import Derived.Laws.MakeOwn
import Derived.Test.YtlhfdlfbnnfjjaaDoorJ26
namespace Go.Proofs.YtlhfdlfbnnfjjaaDoor
open Go.RowKit

set_option maxRecDepth 100000 in
theorem made_secs (m : Nat) : madeCells (Value.agg (z64.map B).toArray).cells (m * 64) = (secsC (List.replicate m z64)).toArray := by
  have hl : (secsC (List.replicate m z64)).length = m * 64 := by rw [length_secs (fun x hx => by rw [(List.mem_replicate.1 hx).2]; rfl), List.length_replicate]
  have hb : ∀ v ∈ secsC (List.replicate m z64), v = B 0 := by
    intro v hv
    simp only [secsC, List.mem_flatten, List.mem_map] at hv
    obtain ⟨l, ⟨x, hx, rfl⟩, hv⟩ := hv
    rw [(List.mem_replicate.1 hx).2] at hv
    obtain ⟨y, hy, rfl⟩ := List.mem_map.1 hv
    rw [(List.mem_replicate.1 hy).2]
  have hz0 : ∀ v ∈ z64.map B, v = B 0 := fun v hv => by
    obtain ⟨y, hy, rfl⟩ := List.mem_map.1 hv
    rw [(List.mem_replicate.1 hy).2]
  have hz : ∀ j, j < 64 → (z64.map B).toArray[j]! = B 0 := fun j hj => by
    have e := hz0 ((z64.map B).toArray[j]!) (by rw [getElem!_pos _ j (by exact hj)]; exact List.mem_toArray.1 (Array.getElem_mem (xs := (z64.map B).toArray) (i := j) hj))
    exact e
  apply Array.ext
  · rw [size_madeCells]; simp [hl]
  · intro j h1 h2
    rw [size_madeCells] at h1
    have e := hb _ (List.getElem_mem (l := secsC (List.replicate m z64)) (n := j) (by simpa using h2))
    have e2 : (secsC (List.replicate m z64)).toArray[j] = B 0 := by simpa using e
    rw [e2]
    simp only [madeCells, Array.getElem_map, Array.getElem_range, Value.cells]
    rw [show (z64.map B).toArray.size = 64 from rfl]
    exact hz _ (Nat.mod_lt _ (by omega))
set_option maxRecDepth 100000 in
theorem info_sec3 : (Tryd.prog.info? 86).map (fun i => (i.zero, i.size, i.bytes)) = some (some (.agg (z64.map B).toArray), 64, 64) := by kernel_rfl
set_option maxRecDepth 100000 in
theorem run_make_secs (w : World) (m : Nat) (hm : m ≤ 8192) : (Instr.makeSlice 51 (.int .i64 (m : Int)) (.int .i64 (m : Int))).run Tryd.prog w = .ok (.slice (some ⟨w.heap.size, 0, none⟩) m m) (w.alloc (.cells (secsC (List.replicate m z64)).toArray 86)) := by
  obtain ⟨i, hi, hz, hs, hb⟩ := info_parts info_sec3
  have := run_make (P := Tryd.prog) w 51 86 i _ Tryd.underlying51 hi hz .i64 .i64 (m : Int) (m : Int) (by omega) (by omega) (by rw [hb]; omega) (by omega)
  rw [hs, Int.toNat_natCast, made_secs] at this
  exact this
set_option maxRecDepth 100000 in
theorem wpList_make_secs {ops : Array Oper} {rest : List Oper} {o : Oper} {a : Act} {w : World} {Q : Exit → Act → World → Prop} (hgd : o.guard = none) (x : Operand) (ho : o.op = .makeSlice 51 x x) (k : Int) (hx : a.eval x = .int .i64 k) (m : Nat) (hk : k = (m : Int)) (hm : m ≤ 8192)
    (h : wpList Tryd.prog ops Q rest (a.put o.dst (.slice (some ⟨w.heap.size, 0, none⟩) m m)) (w.alloc (.cells (secsC (List.replicate m z64)).toArray 86))) : wpList Tryd.prog ops Q (o :: rest) a w := by
  subst hk
  refine wpList_plain hgd fun K hK => ?_
  have hrun := run_make_secs w m hm
  unfold Oper.wp
  simp [execOp, ho, hx, hrun, Result.andThen]
  exact hK _ _ h

/-- how many sectors there are when so many are asked for -/
def secN (n : Int) : Nat := (min (max n 0) 8192).toNat
/-- a disk at first -/
def DSt.new (m : Nat) : DSt := ⟨List.replicate m z64, [], 0, false⟩
set_option maxRecDepth 100000 in
theorem ok_new (m : Nat) (hm : m ≤ 8192) : (DSt.new m).Ok := ⟨fun x hx => by rw [(List.mem_replicate.1 hx).2]; rfl, by simpa [DSt.new] using hm, by simp [DSt.new]⟩
set_option maxRecDepth 100000 in
theorem heap2d (w : World) (X Y : Obj) : ((w.alloc X).alloc Y).heap[w.heap.size]? = some X ∧ ((w.alloc X).alloc Y).heap[w.heap.size + 1]? = some Y := by
  refine ⟨(Below.heap_alloc _ _ _ (by simp)).trans (heap_alloc_new w _), ?_⟩
  have := heap_alloc_new (w.alloc X) Y
  rwa [World.size_alloc] at this
set_option maxRecDepth 100000 in
theorem dnew_any (w : World) (n : Int) : Calls Tryd.prog 6 #[.int .i64 n] w fun e w' => e = .returned (.pointer (some ⟨w.heap.size + 1, 0, none⟩)) ∧
    DAt w' w.heap.size (w.heap.size + 1) w.heap.size (.slice none 0 0) (DSt.new (secN n)) ∧ Below w.heap.size w w' ∧ w'.heap.size = w.heap.size + 2 := by
  have hm : secN n ≤ 8192 := by unfold secN; omega
  have hn1 : n < 0 → (0 : Int) = (secN n : Int) := fun _ => by unfold secN; omega
  have hn2 : 0 ≤ n → n ≤ 8192 → n = (secN n : Int) := fun _ _ => by unfold secN; omega
  have hn3 : 8192 < n → (8192 : Int) = (secN n : Int) := fun _ => by unfold secN; omega
  have key : DAt ((w.alloc (.cells (secsC (List.replicate (secN n) z64)).toArray 86)).alloc (.cells #[.slice (some ⟨w.heap.size, 0, none⟩) (secN n) (secN n), .slice none 0 0, .int .i64 0, .bool false] 54))
      w.heap.size (w.heap.size + 1) w.heap.size (.slice none 0 0) (DSt.new (secN n)) := by
    obtain ⟨h1, h2⟩ := heap2d w (.cells (secsC (List.replicate (secN n) z64)).toArray 86) (.cells #[.slice (some ⟨w.heap.size, 0, none⟩) (secN n) (secN n), .slice none 0 0, .int .i64 0, .bool false] 54)
    refine ⟨?_, h1, World.ownsRow_nil _ _ _ _, ok_new _ hm, by omega, (fun e => by cases e), (fun e => by cases e), by omega, by omega⟩
    rw [h2]; simp [DSt.cells, DSt.new]
  have Key := Lib.hid key
  have H1 := Lib.hid hn1
  have H2 := Lib.hid hn2
  have H3 := Lib.hid hn3
  clear key hn1 hn2 hn3
  generalize secN n = m at *
  rcases (by omega : n < 0 ∨ (0 ≤ n ∧ n ≤ 8192) ∨ 8192 < n) with hc | ⟨hc, hc2⟩ | hc
  · have hk := Lib.hid (H1.out hc)
    go_enter Tryd.func6, Tryd.ntmps6
    go_wp2_with (refine wpList_make_secs rfl (.tmp 7) rfl _ rfl m hk.out hm ?_)
    go_ret
    exact ⟨rfl, Key.out, ((Below.refl _ _).alloc (Nat.le_refl _) _).alloc (by simp) _, by simp⟩
  · have hk := Lib.hid (H2.out hc hc2)
    have d1 : decide (n < 0) = false := by simpa using hc
    have d2 : decide (8192 < n) = false := by simpa using hc2
    go_enter Tryd.func6, Tryd.ntmps6
    go_wp2_with (refine wpList_make_secs rfl (.tmp 7) rfl _ rfl m hk.out hm ?_)
    go_ret
    exact ⟨rfl, Key.out, ((Below.refl _ _).alloc (Nat.le_refl _) _).alloc (by simp) _, by simp⟩
  · have hk := Lib.hid (H3.out hc)
    have d1 : decide (n < 0) = false := by simp; omega
    go_enter Tryd.func6, Tryd.ntmps6
    go_wp2_with (refine wpList_make_secs rfl (.tmp 7) rfl _ rfl m hk.out hm ?_)
    go_ret
    exact ⟨rfl, Key.out, ((Below.refl _ _).alloc (Nat.le_refl _) _).alloc (by simp) _, by simp⟩
end Go.Proofs.YtlhfdlfbnnfjjaaDoor
namespace Go.Proofs.YtlhfdlfbnnfjjaaDoor
open Go.RowKit

/-- a sector that was read: its head, and where the rest of it lies -/
structure LSec where
  h : Hd
  q : Part
def LSec.row (x : LSec) : List Value := secC x.h x.q
def LSec.abs (x : LSec) : Hd × List UInt8 := (x.h, x.q.l)
/-- a sector's bytes, read -/
def rdS (b : List UInt8) : Hd × List UInt8 := (rdH b, b.drop 12)
/-- sectors in memory -/
structure LIn (w : World) (x : LSec) : Prop where
  q : x.q.In w
  len : x.q.l.length = 52
  nil : x.q.ad = none → x.q.cap = 0
set_option maxRecDepth 100000 in
theorem LIn.below {w w' : World} {x : LSec} (h : LIn w x) (hb : Below w.heap.size w w') : LIn w' x := ⟨h.q.below hb, h.len, h.nil⟩
def flatS (L : List LSec) (m : Nat) : List (List Value) := L.map LSec.row ++ List.replicate m zsec
set_option maxRecDepth 100000 in
theorem wide_flatS (L : List LSec) (m : Nat) : Wide 6 (flatS L m) := by
  intro r hr
  rcases List.mem_append.1 hr with h | h
  · obtain ⟨x, _, rfl⟩ := List.mem_map.1 h; rfl
  · rw [(List.mem_replicate.1 h).2]; rfl
structure LoadRel (w : World) (S : List (List UInt8)) (k : Nat) (L : List LSec) (wr : World) : Prop where
  blk : wr.heap[w.heap.size]? = some (.cells (flatS L (S.length - k)).flatten.toArray 74 (0, 0))
  len : L.length = k
  abs : L.map LSec.abs = (S.take k).map rdS
  ins : ∀ x ∈ L, LIn wr x
  new : ∀ x ∈ L, w.heap.size < x.q.g
  below : Below w.heap.size w wr
set_option maxRecDepth 100000 in
theorem made_zsec (m : Nat) : madeCells (Value.agg zsec.toArray).cells (m * 6) = (List.replicate m zsec).flatten.toArray := by
  have hl : (List.replicate m zsec).flatten.length = m * 6 := by simp [zsec, List.length_flatten]
  apply Array.ext
  · rw [size_madeCells]; simp [hl]
  · intro j h1 h2
    rw [size_madeCells] at h1
    simp only [madeCells, Array.getElem_map, Array.getElem_range, Value.cells]
    have hw : Wide 6 (List.replicate m zsec) := by intro r hr; rw [(List.mem_replicate.1 hr).2]; rfl
    have hj : j = (j / 6) * 6 + j % 6 := by omega
    have e := get_flat hw (j / 6) (by simp; omega) (j % 6) (Nat.mod_lt _ (by omega))
    rw [← hj] at e
    have hm : j % 6 < 6 := Nat.mod_lt _ (by omega)
    rw [List.getElem_toArray]
    have e2 : (List.replicate m zsec).flatten[j]'(by rw [hl]; exact h1) = zsec[j % 6]'(by simpa [zsec] using hm) := by
      have := List.getElem?_eq_some_iff.1 (e.trans (by rw [List.getElem_replicate, List.getElem?_eq_getElem (by simpa [zsec] using hm)]))
      exact this.2
    rw [e2]
    show zsec.toArray[j % zsec.toArray.size]! = _
    have e3 : zsec.toArray.size = 6 := rfl
    rw [e3, getElem!_pos _ _ (by simpa [zsec] using hm)]
    simp
set_option maxRecDepth 100000 in
theorem info_secB3 : (Tryd.prog.info? 74).map (fun i => (i.zero, i.size, i.bytes)) = some (some (.agg zsec.toArray), 6, 64) := by kernel_rfl
set_option maxRecDepth 100000 in
theorem run_make_zsec (w : World) (m : Nat) (hm : m ≤ 8192) : (Instr.makeSlice 55 (.int .i64 (m : Int)) (.int .i64 (m : Int))).run Tryd.prog w = .ok (.slice (some ⟨w.heap.size, 0, none⟩) m m) (w.alloc (.cells (List.replicate m zsec).flatten.toArray 74)) := by
  obtain ⟨i, hi, hz, hs, hb⟩ := info_parts info_secB3
  have := run_make (P := Tryd.prog) w 55 74 i _ Tryd.underlying55 hi hz .i64 .i64 (m : Int) (m : Int) (by omega) (by omega) (by rw [hb]; omega) (by omega)
  rw [hs, Int.toNat_natCast, made_zsec] at this
  exact this
set_option maxRecDepth 100000 in
theorem wpList_make_zsec {ops : Array Oper} {rest : List Oper} {o : Oper} {a : Act} {w : World} {Q : Exit → Act → World → Prop} (hgd : o.guard = none) (x : Operand) (ho : o.op = .makeSlice 55 x x) (m : Nat) (hx : a.eval x = .int .i64 (m : Int)) (hm : m ≤ 8192)
    (h : wpList Tryd.prog ops Q rest (a.put o.dst (.slice (some ⟨w.heap.size, 0, none⟩) m m)) (w.alloc (.cells (List.replicate m zsec).flatten.toArray 74))) : wpList Tryd.prog ops Q (o :: rest) a w := by
  refine wpList_plain hgd fun K hK => ?_
  have hrun := run_make_zsec w m hm
  unfold Oper.wp
  simp [execOp, ho, hx, hrun, Result.andThen]
  exact hK _ _ h
set_option maxRecDepth 100000 in
theorem LoadRel.step {w wr w2 : World} {S : List (List UInt8)} {k : Nat} {L : List LSec} (h : LoadRel w S k L wr) (hk : k < S.length) (q : Part) (hq : q.l = (S[k]).drop 12) (h64 : (S[k]).length = 64) (hin : q.In w2) (hn : q.ad = none → q.cap = 0) (hg : wr.heap.size ≤ q.g) (hb : Below wr.heap.size wr w2) :
    LoadRel w S (k + 1) (L ++ [⟨rdH S[k], q⟩]) (w2.setCells w.heap.size (k * 6) (secC (rdH S[k]) q)) ∧ w2.there w.heap.size (k * 6) 6 := by
  have hG := lt_block h.blk
  have hrow := (hb.block _ hG).trans h.blk
  have hw := wide_flatS L (S.length - k)
  have hlen : (flatS L (S.length - k)).length = S.length := by simp [flatS, h.len]; omega
  have hl6 : (flatS L (S.length - k)).flatten.length = S.length * 6 := by rw [length_flatR hw, hlen]
  have hk1 : Kept1 w.heap.size w2 (w2.setCells w.heap.size (k * 6) (secC (rdH S[k]) q)) := Kept1.setCells _ (Or.inl rfl) _ _ (Kept1.refl _ _)
  have hend := heap_setCells _ _ (secC (rdH S[k]) q) (k * 6) _ _ hrow (by rw [hl6, length_secC]; omega)
  rw [over_flat hw k (by omega) _ (length_secC _ _)] at hend
  refine ⟨⟨?_, by simp [h.len], ?_, ?_, ?_, Kept1.mono (h.below.trans (hb.mono h.below.size)) hk1 (Nat.le_refl _)⟩, there_block hrow _ _ (by rw [hl6]; omega)⟩
  · rw [hend]
    have e : (flatS L (S.length - k)).set k (secC (rdH S[k]) q) = flatS (L ++ [⟨rdH S[k], q⟩]) (S.length - (k + 1)) := by
      unfold flatS
      rw [List.set_append_right _ _ (by simp [h.len])]
      have : S.length - k = (S.length - (k + 1)) + 1 := by omega
      rw [this, List.replicate_succ]
      simp [h.len, LSec.row]
    rw [e]
  · rw [List.map_append, h.abs, List.take_succ_eq_append_getElem hk, List.map_append]
    simp [LSec.abs, rdS, hq]
  · intro x hx
    rcases List.mem_append.1 hx with hx | hx
    · have h1 := h.ins x hx
      exact ⟨(h1.q.below hb).kept hk1 (fun _ => by have := h.new x hx; omega), h1.len, h1.nil⟩
    · obtain rfl := List.mem_singleton.1 hx
      exact ⟨hin.kept hk1 (fun _ => (by omega : q.g ≠ w.heap.size)), by dsimp only; rw [hq, List.length_drop, h64], hn⟩
  · intro x hx
    rcases List.mem_append.1 hx with hx | hx
    · exact h.new x hx
    · obtain rfl := List.mem_singleton.1 hx
      dsimp only; omega
/-- sectors in memory, in a block of their own -/
structure SecsAt (w : World) (G : Nat) (L : List LSec) : Prop where
  blk : w.heap[G]? = some (.cells (L.map LSec.row).flatten.toArray 74 (0, 0))
  ins : ∀ x ∈ L, LIn w x
set_option maxRecDepth 100000 in
theorem SecsAt.below {w w' : World} {G : Nat} {L : List LSec} (h : SecsAt w G L) (hb : Below w.heap.size w w') : SecsAt w' G L := ⟨(hb.block _ (lt_block h.blk)).trans h.blk, fun x hx => (h.ins x hx).below hb⟩
set_option maxRecDepth 100000 in
set_option maxHeartbeats 1000000 in
theorem load_any (w : World) (N d gs : Nat) (v : Value) (s : DSt) (h : DAt w N d gs v s) (hg : s.gone = false) :
    Calls Tryd.prog 20 #[.pointer (some ⟨d, 0, none⟩)] w fun e w' => ∃ L : List LSec, e = .returned (.tuple #[.slice (some ⟨w.heap.size, 0, none⟩) s.S.length s.S.length, .int .i64 0]) ∧ SecsAt w' w.heap.size L ∧ L.map LSec.abs = s.S.map rdS ∧ Below w.heap.size w w' := by
  have H := Lib.hid h
  have hlim := h.ok.lim
  have HOk := Lib.hid h.ok.len
  have s6 : ∀ w, (sizeOf 74).run Tryd.prog w = .ok 6 w := fun _ => by kernel_rfl
  have HS := Lib.hid (sectors_any w N d gs v s h)
  have hst : ∀ W : World, W.heap[w.heap.size]? = some (.cells (List.replicate s.S.length zsec).flatten.toArray 74 (0, 0)) → Below w.heap.size w W → LoadRel w s.S 0 [] W := fun W h1 h2 => ⟨by simpa [flatS] using h1, rfl, rfl, (fun q hq => absurd hq (by simp)), (fun q hq => absurd hq (by simp)), h2⟩
  have HST := Lib.hid hst
  clear hst h
  go_enter Tryd.func20, Tryd.ntmps20
  go_wp2_with fail
  refine HS.out.mono ?_
  rintro e w' ⟨rfl, rfl⟩
  go_wp2_with (refine wpList_make_zsec rfl (.tmp 9) rfl s.S.length rfl (by omega) ?_)
  generalize hW : World.alloc _ _ = W0 at *
  have R0 : LoadRel w s.S 0 [] W0 := HST.out W0 (by rw [← hW]; exact heap_alloc_new _ _) (by rw [← hW]; exact (Below.refl _ _).alloc (Nat.le_refl _) _)
  clear hW HST HS
  go_loopw [5, 6, 7, 13] (fun _ _ _ i wr => ∃ (k : Nat) (L : List LSec), k ≤ s.S.length ∧ i = .int .i64 k ∧ LoadRel w s.S k L wr) (fun _ _ _ i _ => s.S.length - (intOf i).toNat)
  case atStart => exact ⟨0, [], by omega, rfl, R0⟩
  case round =>
    clear R0
    obtain ⟨k, L, hk, rfl, hr⟩ := hrel
    by_cases hlt : k < s.S.length
    · have hd : decide ((k : Int) < (s.S.length : Int)) = true := by simp; omega
      have HRd := Lib.hid (dread_any wr N d gs v s (H.out.below (hr.below.mono (Nat.le_refl _))) hg k hlt s.S[k] (List.getElem?_eq_getElem hlt))
      have h64 := HOk.out s.S[k] (List.getElem_mem hlt)
      have HR := Lib.hid hr
      have HSt := Lib.hid (fun (w2 : World) (q : Part) hq => hr.step (w2 := w2) hlt q hq h64)
      clear hr
      obtain ⟨b, hb⟩ : ∃ b, s.S[k] = b := ⟨_, rfl⟩
      rw [hb] at HRd HSt h64
      clear hb
      go_wp2_with fail
      refine HRd.out.mono ?_
      rintro e w1 ⟨rfl, hb1, hg1, hs1⟩
      have hpin : (Part.mk (some ⟨wr.heap.size, 0, none⟩) wr.heap.size 0 64 b).In w1 := by have := partNew (l := b) hg1; rwa [h64] at this
      have HSec := Lib.hid (rsec_any w1 _ hpin h64)
      unfold Part.val at HSec
      dsimp only at HSec
      rw [h64] at HSec
      have HB1 := Lib.hid hb1
      clear hb1 hg1 hpin HRd
      go_wp2_with fail
      refine HSec.out.mono ?_
      rintro e w2 ⟨q, rfl, hqi, hql, hqn, hqg, hb2⟩
      obtain ⟨R2, hth⟩ := HSt.out w2 q hql hqi hqn (by omega) (HB1.out.trans (hb2.mono HB1.out.size))
      have HR2 := Lib.hid R2
      have HTh := Lib.hid hth
      have hone := one_secC (rdH b) q
      have hl6 := length_secC (rdH b) q
      have HQ := Lib.hid hql
      clear hqi hql hqn hqg hb2 R2 hth HR HSt HSec HB1
      obtain ⟨D, hD⟩ : ∃ D, secC (rdH b) q = D := ⟨_, rfl⟩
      rw [hD] at HR2 hone hl6 ⊢
      clear hD
      go_wp2_with (refine wpList_store_mid rfl 74 (.tmp 29) (.tmp 28) rfl w.heap.size (k * 6) D.toArray rfl rfl (by simpa [hl6] using HTh.out) (info_secB _ (by simpa using hl6)) (all_oneCell_toArray hone) ?_)
      go_roundw
      case rel => exact ⟨k + 1, L ++ [⟨rdH b, q⟩], by omega, by go_num, HR2.out⟩
      case measure => simp [intOf]; omega
    · have hd : decide ((k : Int) < (s.S.length : Int)) = false := by simp; omega
      obtain rfl : k = s.S.length := by omega
      have HR := Lib.hid hr
      clear hr
      go_wp2_with fail
      go_ret2
      refine ⟨L, rfl, ⟨?_, HR.out.ins⟩, ?_, HR.out.below⟩
      · have := HR.out.blk
        simpa [flatS] using this
      · have := HR.out.abs
        rwa [List.take_length] at this
end Go.Proofs.YtlhfdlfbnnfjjaaDoor
namespace Go.Proofs.YtlhfdlfbnnfjjaaDoor
open Go.RowKit

def greatG (L : List (Hd × List UInt8)) : Nat := L.foldl (fun g x => max g x.1.g) 0
set_option maxRecDepth 100000 in
theorem greatG_snoc (L : List (Hd × List UInt8)) (x : Hd × List UInt8) : greatG (L ++ [x]) = max (greatG L) x.1.g := by simp [greatG]
set_option maxRecDepth 100000 in
theorem SecsAt.range {w : World} {G : Nat} {L : List LSec} (h : SecsAt w G L) (i : Nat) (hi : i < L.length) : w.rangeAt G (i * 6) (secC L[i].h L[i].q) := by
  have := range_row (k := 6) h.blk (by intro r hr; obtain ⟨x, _, rfl⟩ := List.mem_map.1 hr; rfl) i (by simpa using hi)
  simpa [LSec.row] using this
set_option maxRecDepth 100000 in
set_option maxHeartbeats 1000000 in
theorem greatest_any (w : World) (G : Nat) (L : List LSec) (h : SecsAt w G L) (hm : L.length ≤ 8192) :
    Calls Tryd.prog 21 #[.slice (some ⟨G, 0, none⟩) L.length L.length] w fun e w' => e = .returned (.int .i64 (greatG (L.map LSec.abs) : Int)) ∧ Below w.heap.size w w' := by
  have H := Lib.hid h
  clear h
  go_enter Tryd.func21, Tryd.ntmps21
  go_wp2_with fail
  go_loopw [3, 5, 8] (fun g _ i wr => ∃ k : Nat, k ≤ L.length ∧ i = .int .i64 k ∧ g = .int .i64 (greatG ((L.take k).map LSec.abs) : Int) ∧ Below w.heap.size w wr) (fun _ _ i _ => L.length - (intOf i).toNat)
  case atStart => exact ⟨0, by omega, rfl, rfl, Below.refl _ _⟩
  case round =>
    obtain ⟨k, hk, rfl, rfl, hb⟩ := hrel
    by_cases hlt : k < L.length
    · have hd : decide ((k : Int) < (L.length : Int)) = true := by simp; omega
      have hr := (H.out.below hb).range k hlt
      have HS : Hid (greatG ((L.take (k + 1)).map LSec.abs) = max (greatG ((L.take k).map LSec.abs)) L[k].h.g) := Lib.hid (by
        rw [List.take_succ_eq_append_getElem hlt, List.map_append, List.map_singleton, greatG_snoc]; rfl)
      unfold secC Hd.cells Part.val at hr
      simp only [List.cons_append, List.nil_append] at hr
      have HR := Lib.hid hr
      have HB := Lib.hid hb
      clear hr hb
      generalize L[k] = x at *
      generalize greatG ((L.take k).map LSec.abs) = m at *
      go_wp2_with (refine wpList_load_mid rfl 74 (.tmp 10) rfl G (k * 6) rfl _ _ HR.out Tryd.underlying74 rfl (info_secB _ rfl) ?_)
      go_roundw
      case rel => exact ⟨k + 1, by omega, by go_num, by rw [HS.out]; go_num, (HB.out.alloc HB.out.size _)⟩
      case measure => simp [intOf]; omega
    · have hd : decide ((k : Int) < (L.length : Int)) = false := by simp; omega
      obtain rfl : k = L.length := by omega
      have HB := Lib.hid hb
      clear hb
      go_wp2_with fail
      go_ret
      exact ⟨by rw [List.take_length]; rfl, HB.out⟩
end Go.Proofs.YtlhfdlfbnnfjjaaDoor
