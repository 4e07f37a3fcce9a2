/- DiskPlays: whatever is written, flushed, and lost: each answer, and all sectors, are the chapter's: the walk. -/
import Derived.Test.YtammnjfccjfbhaaDPlay
import Derived.Test.YtammnjfccjfbhaaDOwnLaw
import Derived.BigQuiet
namespace Go.Proofs.Ytammnjfccjfbhaa
open Go.RowKit

set_option maxRecDepth 100000 in
set_option maxHeartbeats 1000000 in
theorem plays_no (w : World) (n : Int) (_ : -128 ≤ n) (_ : n ≤ 127) (ad : Option Addr) (g o cap : Nat) (l : List OpR) (hr : RowsAt w ad g o 5 OpR.cells l) (hm : l.length ≤ maxLen) (hno : fewB l = false ∨ 20 < n) :
    Calls Try.prog 3 #[.int .i8 n, .slice ad l.length cap] w fun e w' => e = .returned (.bool true) ∧ Below w.heap.size w w' := by
  have fin : ∀ (b1 b2 : Bool), fewB l = b1 → decide (20 < n) = b2 → (!b1 || b2) = true → Calls Try.prog 3 #[.int .i8 n, .slice ad l.length cap] w fun e w' => e = .returned (.bool true) ∧ Below w.heap.size w w' := by
    intro b1 b2 e1 e2 hb
    have FW : Hid (∀ W, Below w.heap.size w W → Calls Try.prog 9 #[.slice ad l.length cap] W fun e w' => e = .returned (.bool b1) ∧ W = w') := Lib.hid fun W hW => by
      have hr' : RowsAt W ad g o 5 OpR.cells l := ⟨hr.addr, fun i hi j hj => by
        have := hr.cell i hi j hj
        rw [hW.cell (by
          rw [List.getElem?_eq_getElem (by exact hj)] at this
          exact block_lt_of_cell this)]
        exact this⟩
      have := few_any W ad g o cap l hr' hm
      rwa [e1] at this
    clear hno hr e1
    cases b1 <;> cases b2 <;> (try (cases hb; done)) <;>
    · clear hb
      go_enter Try.func3, Try.ntmps3
      go_wp2_with fail
      refine (awake_any w).mono ?_
      rintro e w1 ⟨rfl, hb1⟩
      have Hb1 := Lib.hid hb1
      clear hb1
      go_wp2_with fail
      refine (FW.out _ Hb1.out).mono ?_
      rintro e w2 ⟨rfl, rfl⟩
      go_wp2_with fail
      refine (awake_any w1).mono ?_
      rintro e w2 ⟨rfl, hb2⟩
      have Hb2 := Lib.hid (Hb1.out.trans (hb2.mono Hb1.out.size))
      clear hb2
      go_wp2_with fail
      go_ret
      exact ⟨rfl, Hb2.out⟩
  refine fin _ _ rfl rfl ?_
  rcases hno with h | h
  · rw [h]; rfl
  · rw [decide_eq_true h]; simp

/-- all calls, as they came in -/
structure OpsIn (w : World) (ad : Option Addr) (g o : Nat) (l : List OpR) : Prop where
  rows : RowsAt w ad g o 5 OpR.cells l
  each : ∀ x ∈ l, Playable w.heap.size w x
  i : ∀ x ∈ l, -9223372036854775808 ≤ x.i ∧ x.i ≤ 9223372036854775807 ∧ -9223372036854775808 ≤ x.n
/-- the last call -/
def lastOp : OpR := ⟨4, 0, 0, none, 0, [], none, 0, 0, 0, []⟩
theorem lastOp_play (N : Nat) (w : World) : Playable N w lastOp := ⟨⟨.inl ⟨_, _, rfl, rfl⟩, fun h => absurd rfl h, fun j hj => by cases hj⟩, fun g o n c _ hn => absurd rfl hn, fun hn => absurd rfl hn, by show (0 : Int) ≤ _; omega, by show 0 ≤ 300; omega⟩

set_option maxRecDepth 100000 in
set_option maxHeartbeats 8000000 in
theorem plays_yes (w : World) (n : Int) (hn1 : -128 ≤ n) (hn2 : n ≤ 20) (ad : Option Addr) (g o cap : Nat) (l : List OpR) (hin : OpsIn w ad g o l) (hm : l.length ≤ maxLen) (hfew : fewB l = true) :
    Calls Try.prog 3 #[.int .i8 n, .slice ad l.length cap] w fun e w' => e = .returned (.bool true) ∧ Below w.heap.size w w' := by
  obtain ⟨hl200, hsz⟩ := few_spec hfew
  have e2 : decide (20 < n) = false := by simp; omega
  have hnw : IntKind.i64.wrap n = n := IntWalk.i64_in _ (by omega)
  have HI := Lib.hid hin
  have FW : Hid (∀ W, Below w.heap.size w W → Calls Try.prog 9 #[.slice ad l.length cap] W fun e w' => e = .returned (.bool true) ∧ W = w') := Lib.hid fun W hW => by
    have hr' : RowsAt W ad g o 5 OpR.cells l := ⟨hin.rows.addr, fun i hi j hj => by
      have := hin.rows.cell i hi j hj
      rw [hW.cell (by
        rw [List.getElem?_eq_getElem (by exact hj)] at this
        exact block_lt_of_cell this)]
      exact this⟩
    have := few_any W ad g o cap l hr' hm
    rwa [hfew] at this
  clear hin hfew hm hsz
  go_enter Try.func3, Try.ntmps3
  go_wp2_with fail
  refine (awake_any w).mono ?_
  rintro e w1 ⟨rfl, hb1⟩
  have Hb1 := Lib.hid hb1
  clear hb1
  go_wp2_with fail
  refine (FW.out _ Hb1.out).mono ?_
  rintro e w2 ⟨rfl, rfl⟩
  go_wp2_with fail
  refine (new_any w1 n).mono ?_
  rintro e w2 ⟨rfl, D2, b2, z2⟩
  have HD2 := Lib.hid D2
  have HB2 := Lib.hid b2
  have Hz2 := Lib.hid z2
  clear D2 b2 z2 FW
  go_wp2_with fail
  refine (refnew_any w2 n).mono ?_
  rintro e w3 ⟨rfl, R3, b3, z3⟩
  have A3 : After w1 0 w3 (.slice none 0 0) (DSt.new (secN n)) ⟨secN n, [], -1⟩ := by
    rw [Hz2.out] at R3
    refine ⟨HD2.out.below b3, ⟨_, R3, fun g hg hF => ?_⟩, rel_new _, ⟨Nat.le_refl _, Nat.le_refl _, by show (0 : Int) ≤ _; omega, by show (-1 : Int) ≤ _; omega⟩, HB2.out.trans (b3.mono HB2.out.size)⟩
    rcases hg with hg | hg | hg
    · rcases hF with hF | hF
      · omega
      · cases hF
    · rcases hF with hF | hF
      · omega
      · cases hF
    · cases hg
  have A3' : ∃ v s t, After w1 0 w3 v s t := ⟨_, _, _, A3⟩
  have HA3 := Lib.hid A3'
  rw [Hz2.out]
  clear R3 b3 z3 A3 A3' HD2 HB2 Hz2
  go_wp2_with fail
  go_loopw [7] (fun i wr => ∃ k : Nat, k ≤ l.length ∧ i = .int .i64 k ∧ ∃ v s t, After w1 k wr v s t) (fun i _ => l.length - (intOf i).toNat)
  case atStart => exact ⟨0, by omega, rfl, HA3.out⟩
  case round =>
    obtain ⟨k, hk, rfl, v, s, t, hA⟩ := hrel
    by_cases hlt : k < l.length
    · have hd1 : decide ((k : Int) < (l.length : Int)) = true := by simp; omega
      have hd2 : decide (k < l.length) = true := by simp; omega
      obtain rfl := HI.out.rows.addr (by intro e; rw [e] at hlt; cases hlt)
      obtain ⟨e0, e1, e2, e3, e4⟩ := op_cells HI.out.rows k hlt
      have hxp := HI.out.each _ (List.getElem_mem hlt)
      have hxi := HI.out.i _ (List.getElem_mem hlt)
      generalize l[k] = x at *
      have hglt : g < w.heap.size := block_lt_of_cell e0
      have hB : Below w.heap.size w wr := Hb1.out.trans (hA.below.mono Hb1.out.size)
      have q0 : wr.cell? ⟨g, o + k * 5, none⟩ = some (.int .u8 (x.k.toNat : Int)) := by rw [hB.cell (by exact hglt)]; exact e0
      have q1 : wr.cell? ⟨g, o + k * 5 + 1, none⟩ = some (.int .i64 x.i) := by rw [hB.cell (by exact hglt)]; exact e1
      have q2 : wr.cell? ⟨g, o + k * 5 + 2, none⟩ = some (.int .i64 x.n) := by rw [hB.cell (by exact hglt)]; exact e2
      have q3 : wr.cell? ⟨g, o + k * 5 + 3, none⟩ = some (.slice x.ba x.l.length x.bc) := by rw [hB.cell (by exact hglt)]; exact e3
      have q4 : wr.cell? ⟨g, o + k * 5 + 4, none⟩ = some (.slice x.pa x.bs.length x.pc) := by rw [hB.cell (by exact hglt)]; exact e4
      obtain ⟨W, hW⟩ : ∃ W, wr.alloc (.cells #[.int .u8 (x.k.toNat : Int), .int .i64 x.i, .int .i64 x.n, .slice x.ba x.l.length x.bc, .slice x.pa x.bs.length x.pc] 33) = W := ⟨_, rfl⟩
      have hBW : Below wr.heap.size wr W := by rw [← hW]; exact (Below.refl _ _).alloc (Nat.le_refl _) _
      have hO : W.heap[wr.heap.size]? = some (.cells #[.int .u8 (x.k.toNat : Int), .int .i64 x.i, .int .i64 x.n, .slice x.ba x.l.length x.bc, .slice x.pa x.bs.length x.pc] 33 (0, 0)) := by rw [← hW]; exact heap_alloc_new _ _
      have HA := Lib.hid (hA.on hBW)
      have HX : Hid (Playable w1.heap.size W x) := Lib.hid (by
        have h1 : Playable w.heap.size W x := hxp.on (hB.trans (hBW.mono hB.size))
        have := Hb1.out.size
        exact ⟨h1.op, fun g o n c e hn => by have := h1.low g o n c e hn; omega, fun hn => by have := h1.lowp hn; omega, h1.n, h1.bs⟩)
      have hNX : Hid (∀ g, foot (w1.heap.size + 1) w1.heap.size v g → g ≠ wr.heap.size) := Lib.hid fun g hg e => by have := (hA.dat.footN hg).2; omega
      have HO := Lib.hid hO
      have o0 : W.cell? ⟨wr.heap.size, 0, none⟩ = some (.int .u8 (x.k.toNat : Int)) := cell_block hO 0
      have o1 : W.cell? ⟨wr.heap.size, 1, none⟩ = some (.int .i64 x.i) := cell_block hO 1
      have o2 : W.cell? ⟨wr.heap.size, 2, none⟩ = some (.int .i64 x.n) := cell_block hO 2
      have o3 : W.cell? ⟨wr.heap.size, 3, none⟩ = some (.slice x.ba x.l.length x.bc) := cell_block hO 3
      have o4 : W.cell? ⟨wr.heap.size, 4, none⟩ = some (.slice x.pa x.bs.length x.pc) := cell_block hO 4
      have hkk := x.k.toNat_lt
      -- what the document's call and the comparison leave
      have NEXT : Hid (∀ v' w5, Wrote W w1.heap.size (w1.heap.size + 1) w1.heap.size v (progDo s x).2.2 v' w5 →
          (w5.cell? ⟨wr.heap.size, 0, none⟩ = some (.int .u8 (x.k.toNat : Int)) ∧ w5.cell? ⟨wr.heap.size, 1, none⟩ = some (.int .i64 x.i) ∧ w5.cell? ⟨wr.heap.size, 2, none⟩ = some (.int .i64 x.n) ∧ w5.cell? ⟨wr.heap.size, 3, none⟩ = some (.slice x.ba x.l.length x.bc) ∧ w5.cell? ⟨wr.heap.size, 4, none⟩ = some (.slice x.pa x.bs.length x.pc)) ∧
          Calls Try.prog 17 #[.pointer (some ⟨w1.heap.size + 2, 0, none⟩), .agg #[.int .u8 (x.k.toNat : Int), .int .i64 x.i, .int .i64 x.n, .slice x.ba x.l.length x.bc, .slice x.pa x.bs.length x.pc]] w5 fun e w6 => e = .returned (.tuple #[.string ⟨(progDo s x).1.toArray⟩, .int .i64 (progDo s x).2.1]) ∧ After w1 (k + 1) w6 v' (progDo s x).2.2 (refDo t x).2.2) := Lib.hid fun v' w5 hw => by
        have h5 := hw.kept.heap HO.out (fun hF => hNX.out _ hF rfl)
        exact ⟨⟨cell_block h5 0, cell_block h5 1, cell_block h5 2, cell_block h5 3, cell_block h5 4⟩, after_any HA.out HX.out (by omega) hw⟩
      have hws := HA.out.small.ws
      have hsf := HA.out.small.f
      clear hxp e0 e1 e2 e3 e4 hB hBW hO hA HA3
      rcases (by omega : x.k.toNat % 5 = 0 ∨ x.k.toNat % 5 = 1 ∨ x.k.toNat % 5 = 2 ∨ x.k.toNat % 5 = 3 ∨ x.k.toNat % 5 = 4) with hq | hq | hq | hq | hq
      · have hqi : (x.k.toNat : Int) % 5 = 0 := by omega
        have WR := Lib.hid (write_all W _ _ _ _ s HA.out.dat x hq HX.out.op (by omega) hsf)
        clear hq
        go_wp2_with fail
        refine WR.out.mono ?_
        rintro e w5 ⟨rfl, hnil, v', hw⟩
        obtain ⟨⟨p0, p1, p2, p3, p4⟩, DO⟩ := NEXT.out v' w5 hw
        rw [hnil] at DO
        generalize (progDo s x).2.1 = E at *
        clear hw hnil WR
        have HDO := Lib.hid DO
        clear DO hW o0 o1 o2 o3 o4 NEXT q0 q1 q2 q3 q4
        go_wp2_with fail
        refine HDO.out.mono ?_
        rintro e w6 ⟨rfl, hA6⟩
        have hA6' : ∃ v s t, After w1 (k + 1) w6 v s t := ⟨_, _, _, hA6⟩
        have HA6 := Lib.hid hA6'
        have WT := Lib.hid (fun n => (hA6.on (below_drewN (Below.refl w6.heap.size w6) n)).waits)
        have RW := Lib.hid (fun n => (hA6.on (below_drewN (Below.refl w6.heap.size w6) n)).refwaits (by omega))
        have SC := Lib.hid (fun n => (hA6.on (below_drewN (Below.refl w6.heap.size w6) n)).sectors)
        have cn := hA6.n
        generalize (progDo s x).2.2.ws.length = m1 at *
        generalize (progDo s x).2.2.S.length = n1 at *
        clear hA6 hA6' HDO p0 p1 p2 p3 p4
        go_wp2_with fail
        go_quiet ((first | (go_at_call 18; exact Calls.quiet_w (WT.out _)) | (go_at_call 19; exact Calls.quiet_w (RW.out _)) | (go_at_call 20; exact Calls.quiet_w (SC.out _))))
        go_wp2_with fail
        go_roundw
        case rel =>
          obtain ⟨v6, s6, t6, h6⟩ := HA6.out
          exact ⟨k + 1, by omega, by go_num, v6, s6, t6, h6.on (below_drewN (Below.refl _ _) _)⟩
        case measure => simp [intOf]; omega
      · have hqi : (x.k.toNat : Int) % 5 = 1 := by omega
        have WR := Lib.hid (read_all W _ _ _ _ s HA.out.dat x hq)
        clear hq
        go_wp2_with fail
        refine WR.out.mono ?_
        rintro e w5 ⟨ra, rn, rc, rfl, hsrc, hs', hb5⟩
        have hw : Wrote W w1.heap.size (w1.heap.size + 1) w1.heap.size v (progDo s x).2.2 v w5 := by rw [hs']; exact ⟨HA.out.dat.below hb5, .of_below hb5, fun _ h => .inl h⟩
        obtain ⟨⟨p0, p1, p2, p3, p4⟩, DO⟩ := NEXT.out v w5 hw
        have hcv := conv_bytes hsrc
        generalize (progDo s x).2.1 = E at *
        generalize (progDo s x).1.toArray = G at *
        clear hw hsrc hs' hb5 WR
        have HDO := Lib.hid DO
        clear DO hW o0 o1 o2 o3 o4 NEXT q0 q1 q2 q3 q4
        go_wp2_with fail
        refine HDO.out.mono ?_
        rintro e w6 ⟨rfl, hA6⟩
        have hA6' : ∃ v s t, After w1 (k + 1) w6 v s t := ⟨_, _, _, hA6⟩
        have HA6 := Lib.hid hA6'
        have WT := Lib.hid (fun n => (hA6.on (below_drewN (Below.refl w6.heap.size w6) n)).waits)
        have RW := Lib.hid (fun n => (hA6.on (below_drewN (Below.refl w6.heap.size w6) n)).refwaits (by omega))
        have SC := Lib.hid (fun n => (hA6.on (below_drewN (Below.refl w6.heap.size w6) n)).sectors)
        have cn := hA6.n
        generalize (progDo s x).2.2.ws.length = m1 at *
        generalize (progDo s x).2.2.S.length = n1 at *
        clear hA6 hA6' HDO p0 p1 p2 p3 p4
        go_wp2_with fail
        go_quiet ((first | (go_at_call 18; exact Calls.quiet_w (WT.out _)) | (go_at_call 19; exact Calls.quiet_w (RW.out _)) | (go_at_call 20; exact Calls.quiet_w (SC.out _))))
        go_wp2_with fail
        go_roundw
        case rel =>
          obtain ⟨v6, s6, t6, h6⟩ := HA6.out
          exact ⟨k + 1, by omega, by go_num, v6, s6, t6, h6.on (below_drewN (Below.refl _ _) _)⟩
        case measure => simp [intOf]; omega
      · have hqi : (x.k.toNat : Int) % 5 = 2 := by omega
        have WR := Lib.hid (flush_all W _ _ _ _ s HA.out.dat x hq)
        clear hq
        go_wp2_with fail
        refine WR.out.mono ?_
        rintro e w5 ⟨rfl, hnil, v', hw⟩
        obtain ⟨⟨p0, p1, p2, p3, p4⟩, DO⟩ := NEXT.out v' w5 hw
        rw [hnil] at DO
        generalize (progDo s x).2.1 = E at *
        clear hw hnil WR
        have HDO := Lib.hid DO
        clear DO hW o0 o1 o2 o3 o4 NEXT q0 q1 q2 q3 q4
        go_wp2_with fail
        refine HDO.out.mono ?_
        rintro e w6 ⟨rfl, hA6⟩
        have hA6' : ∃ v s t, After w1 (k + 1) w6 v s t := ⟨_, _, _, hA6⟩
        have HA6 := Lib.hid hA6'
        have WT := Lib.hid (fun n => (hA6.on (below_drewN (Below.refl w6.heap.size w6) n)).waits)
        have RW := Lib.hid (fun n => (hA6.on (below_drewN (Below.refl w6.heap.size w6) n)).refwaits (by omega))
        have SC := Lib.hid (fun n => (hA6.on (below_drewN (Below.refl w6.heap.size w6) n)).sectors)
        have cn := hA6.n
        generalize (progDo s x).2.2.ws.length = m1 at *
        generalize (progDo s x).2.2.S.length = n1 at *
        clear hA6 hA6' HDO p0 p1 p2 p3 p4
        go_wp2_with fail
        go_quiet ((first | (go_at_call 18; exact Calls.quiet_w (WT.out _)) | (go_at_call 19; exact Calls.quiet_w (RW.out _)) | (go_at_call 20; exact Calls.quiet_w (SC.out _))))
        go_wp2_with fail
        go_roundw
        case rel =>
          obtain ⟨v6, s6, t6, h6⟩ := HA6.out
          exact ⟨k + 1, by omega, by go_num, v6, s6, t6, h6.on (below_drewN (Below.refl _ _) _)⟩
        case measure => simp [intOf]; omega
      · have hqi : (x.k.toNat : Int) % 5 = 3 := by omega
        have WR := Lib.hid (fuse_all W _ _ _ _ s HA.out.dat x hq)
        clear hq
        go_wp2_with fail
        refine WR.out.mono ?_
        rintro e w5 ⟨rfl, ⟨hnil, hzero⟩, v', hw⟩
        obtain ⟨⟨p0, p1, p2, p3, p4⟩, DO⟩ := NEXT.out v' w5 hw
        rw [hnil, hzero] at DO
        clear hw hnil hzero WR
        have HDO := Lib.hid DO
        clear DO hW o0 o1 o2 o3 o4 NEXT q0 q1 q2 q3 q4
        go_wp2_with fail
        refine HDO.out.mono ?_
        rintro e w6 ⟨rfl, hA6⟩
        have hA6' : ∃ v s t, After w1 (k + 1) w6 v s t := ⟨_, _, _, hA6⟩
        have HA6 := Lib.hid hA6'
        have WT := Lib.hid (fun n => (hA6.on (below_drewN (Below.refl w6.heap.size w6) n)).waits)
        have RW := Lib.hid (fun n => (hA6.on (below_drewN (Below.refl w6.heap.size w6) n)).refwaits (by omega))
        have SC := Lib.hid (fun n => (hA6.on (below_drewN (Below.refl w6.heap.size w6) n)).sectors)
        have cn := hA6.n
        generalize (progDo s x).2.2.ws.length = m1 at *
        generalize (progDo s x).2.2.S.length = n1 at *
        clear hA6 hA6' HDO p0 p1 p2 p3 p4
        go_wp2_with fail
        go_quiet ((first | (go_at_call 18; exact Calls.quiet_w (WT.out _)) | (go_at_call 19; exact Calls.quiet_w (RW.out _)) | (go_at_call 20; exact Calls.quiet_w (SC.out _))))
        go_wp2_with fail
        go_roundw
        case rel =>
          obtain ⟨v6, s6, t6, h6⟩ := HA6.out
          exact ⟨k + 1, by omega, by go_num, v6, s6, t6, h6.on (below_drewN (Below.refl _ _) _)⟩
        case measure => simp [intOf]; omega
      · have hqi : (x.k.toNat : Int) % 5 = 4 := by omega
        have WR := Lib.hid (crash_every W _ _ _ _ s HA.out.dat x hq HX.out.op HX.out.lowp (by omega) (by have := HX.out.bs; omega))
        clear hq
        go_wp2_with fail
        refine WR.out.mono ?_
        rintro e w5 ⟨rfl, ⟨hnil, hzero⟩, v', hw⟩
        obtain ⟨⟨p0, p1, p2, p3, p4⟩, DO⟩ := NEXT.out v' w5 hw
        rw [hnil, hzero] at DO
        clear hw hnil hzero WR
        have HDO := Lib.hid DO
        clear DO hW o0 o1 o2 o3 o4 NEXT q0 q1 q2 q3 q4
        go_wp2_with fail
        refine HDO.out.mono ?_
        rintro e w6 ⟨rfl, hA6⟩
        have hA6' : ∃ v s t, After w1 (k + 1) w6 v s t := ⟨_, _, _, hA6⟩
        have HA6 := Lib.hid hA6'
        have WT := Lib.hid (fun n => (hA6.on (below_drewN (Below.refl w6.heap.size w6) n)).waits)
        have RW := Lib.hid (fun n => (hA6.on (below_drewN (Below.refl w6.heap.size w6) n)).refwaits (by omega))
        have SC := Lib.hid (fun n => (hA6.on (below_drewN (Below.refl w6.heap.size w6) n)).sectors)
        have cn := hA6.n
        generalize (progDo s x).2.2.ws.length = m1 at *
        generalize (progDo s x).2.2.S.length = n1 at *
        clear hA6 hA6' HDO p0 p1 p2 p3 p4
        go_wp2_with fail
        go_quiet ((first | (go_at_call 18; exact Calls.quiet_w (WT.out _)) | (go_at_call 19; exact Calls.quiet_w (RW.out _)) | (go_at_call 20; exact Calls.quiet_w (SC.out _))))
        go_wp2_with fail
        go_roundw
        case rel =>
          obtain ⟨v6, s6, t6, h6⟩ := HA6.out
          exact ⟨k + 1, by omega, by go_num, v6, s6, t6, h6.on (below_drewN (Below.refl _ _) _)⟩
        case measure => simp [intOf]; omega
    · obtain rfl : k = l.length := by omega
      have hd1 : decide ((l.length : Int) < (l.length : Int)) = false := by simp
      have hpd : progDo s lastOp = ([], 0, s.crash []) := by
        unfold progDo
        rw [if_neg (by decide), if_neg (by decide), if_neg (by decide), if_neg (by decide)]
        rfl
      have CR0 := crash_every wr _ _ _ _ s hA.dat lastOp rfl (lastOp_play w1.heap.size wr).op (fun hn => absurd rfl hn) (by have := hA.small.ws; omega) (by show 0 ≤ 100000; omega)
      have CR : Hid (Calls Try.prog 16 #[.pointer (some ⟨w1.heap.size + 1, 0, none⟩), .slice none 0 0] wr fun e w' => e = .returned (.tuple #[]) ∧ ∃ v', Wrote wr w1.heap.size (w1.heap.size + 1) w1.heap.size v (progDo s lastOp).2.2 v' w') := Lib.hid (Calls.mono CR0 fun e w' ⟨he, _, hw⟩ => ⟨he, hw⟩)
      have DO : Hid (∀ v' w5, Wrote wr w1.heap.size (w1.heap.size + 1) w1.heap.size v (progDo s lastOp).2.2 v' w5 → Calls Try.prog 17 #[.pointer (some ⟨w1.heap.size + 2, 0, none⟩), .agg #[.int .u8 4, .int .i64 0, .int .i64 0, .slice none 0 0, .slice none 0 0]] w5 fun e w6 => (∃ r, e = .returned r) ∧ After w1 (l.length + 1) w6 v' (s.crash []) (refDo t lastOp).2.2) := Lib.hid fun v' w5 hw => by
        have := after_any hA (lastOp_play _ wr) (by omega) hw
        rw [hpd] at this
        exact Calls.mono this fun e w6 ⟨he, ha⟩ => ⟨⟨_, he⟩, ha⟩
      clear hA CR0 hpd HA3
      go_wp2_with fail
      refine CR.out.mono ?_
      rintro e w5 ⟨rfl, v', hw⟩
      have DO5 := Lib.hid (DO.out v' w5 hw)
      clear hw CR DO
      go_wp2_with fail
      refine DO5.out.mono ?_
      rintro e w6 ⟨⟨r, rfl⟩, hA6⟩
      have HA6 := Lib.hid hA6
      have hg6 : (s.crash []).gone = false := rfl
      have Hg6 := Lib.hid hg6
      have hlim := hA6.dat.ok.lim
      obtain ⟨s6, hs6⟩ : ∃ s6, s.crash [] = s6 := ⟨_, rfl⟩
      rw [hs6] at HA6 Hg6 hlim
      obtain ⟨t6, ht6⟩ : ∃ t6, (refDo t lastOp).2.2 = t6 := ⟨_, rfl⟩
      rw [ht6] at HA6
      clear hA6 hg6 DO5 hs6 ht6
      go_wp2_with fail
      go_loopw [15] (fun i wr => ∃ j : Nat, j ≤ s6.S.length ∧ i = .int .i64 j ∧ Below w6.heap.size w6 wr) (fun i _ => s6.S.length - (intOf i).toNat)
      case atStart => exact ⟨0, by omega, rfl, Below.refl _ _⟩
      case round =>
        obtain ⟨j, hj, rfl, hb7⟩ := hrel
        have A7 := HA6.out.on hb7
        have SC := Lib.hid A7.sectors
        have Hb7 := Lib.hid hb7
        have H7 := Lib.hid A7
        clear hb7 A7
        go_wp2_with fail
        refine SC.out.mono ?_
        rintro e w' ⟨rfl, rfl⟩
        by_cases hlt2 : j < s6.S.length
        · have hd2 : decide ((j : Int) < (s6.S.length : Int)) = true := by simp; omega
          have hd3 : decide (j < s6.S.length) = true := by simp; omega
          have hb := H7.out.rel.view j hlt2
          have RD := Lib.hid (read_any _ _ _ _ _ _ H7.out.dat Hg6.out j hlt2 _ hb)
          have hyl : (lookR t6.L (j : Int)).length = 64 := H7.out.dat.ok.len _ (List.mem_of_getElem? hb)
          have Hyl := Lib.hid hyl
          clear hb SC hyl
          go_wp2_with fail
          refine RD.out.mono ?_
          rintro e w8 ⟨rfl, b8, hY, z8⟩
          have A8 := H7.out.on b8
          have HB8 := Lib.hid (Hb7.out.trans (b8.mono Hb7.out.size))
          have CV : Hid (∀ W8, Below w8.heap.size w8 W8 → (convert 30 9 (.slice (some ⟨wr.heap.size, 0, none⟩) 64 64)).run Try.prog W8 = .ok (.string ⟨(lookR t6.L (j : Int)).toArray⟩) W8) := Lib.hid fun W8 h8 => by
            have := bsrc_block ((h8.block _ (lt_block hY)).trans hY) 64
            rw [Hyl.out] at this
            exact conv_bytes this
          have LK : Hid (∀ W8, Below w8.heap.size w8 W8 → Calls Try.prog 21 #[.pointer (some ⟨w1.heap.size + 2, 0, none⟩), .int .i64 (j : Int)] W8 fun e w' => e = .returned (.string ⟨(lookR t6.L (j : Int)).toArray⟩) ∧ Below W8.heap.size W8 w') := Lib.hid fun W8 h8 => by
            obtain ⟨rv, hr, _⟩ := (A8.on h8).rat
            exact look_any W8 _ _ _ _ hr (by have := A8.small.L; omega) _
          generalize (lookR t6.L (j : Int)).toArray = G at *
          clear b8 hY z8 A8 RD Hyl
          go_wp2_with fail
          refine wp_region_quietB (by kernel_rfl) (by kernel_rfl) ?_
          have cvm : ∀ m : Bl w8, (convert 30 9 (.slice (some ⟨wr.heap.size, 0, none⟩) 64 64)).run Try.prog m.wr = .ok (.string ⟨G⟩) m.wr := fun m => CV.out _ m.below
          iterate 10 (go_big_quiet_step ((go_at_call 21; with_reducible exact Calls.quiet_b (LK.out _ (Bl.below _)))))
          refine wpQuiet_nil ?_
          intro m
          have HB9 := Lib.hid (HB8.out.trans (m.below.mono HB8.out.size))
          generalize m.wr = w9 at *
          clear cvm m
          go_wp2_with fail
          go_roundw
          case rel => exact ⟨j + 1, by omega, by go_num, HB9.out⟩
          case measure => simp [intOf]; omega
        · have hd2 : decide ((j : Int) < (s6.S.length : Int)) = false := by simp; omega
          have hd3 : decide (j < s6.S.length) = false := by simp; omega
          have hbE := Hb1.out.trans (H7.out.below.mono Hb1.out.size)
          have HbE := Lib.hid hbE
          clear hbE SC
          go_wp2_with fail
          go_ret
          exact ⟨rfl, HbE.out⟩
end Go.Proofs.Ytammnjfccjfbhaa
