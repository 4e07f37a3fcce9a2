/- The reference's bytes of a part. -/
import Derived.Test.YtebadbnlihbecaaCBack
import Derived.Test.YtebadbnlihbecaaCPart
namespace Go.Proofs.Ytebadbnlihbecaa
open Go.RowKit

/-- can a part be? -/
def bytesOk (p : PartV) (lx : List Val) : Bool :=
  if p.q % 8 = 0 then decide (0 ≤ p.n ∧ p.n < 256) else if p.q % 8 = 1 then decide (0 ≤ p.n ∧ p.n < 65536) else if p.q % 8 = 2 then decide (0 ≤ p.n ∧ p.n < 4294967296)
  else if p.q % 8 = 3 then true else if p.q % 8 = 4 then true else if p.q % 8 = 5 then decide (p.s.size ≤ 4096) else if p.q % 8 = 6 then true else p.v.formed lx
/-- its bytes -/
def bytesB (p : PartV) (lx : List Val) : List UInt8 :=
  if p.q % 8 = 0 then numB p.n.toNat 1 else if p.q % 8 = 1 then numB p.n.toNat 2 else if p.q % 8 = 2 then numB p.n.toNat 4
  else if p.q % 8 = 3 then numB (p.n % 18446744073709551616).toNat 8 else if p.q % 8 = 4 then numB (p.n % 18446744073709551616 % 2).toNat 1
  else if p.q % 8 = 5 then numB p.s.size 2 ++ tb p.s else if p.q % 8 = 6 then tb p.s else valB p.v lx
/-- bytes that lie there if all is well -/
structure SrcIf (ok : Bool) (w : World) (v : Value) (l : List UInt8) : Prop where
  src : ok = true → BSrc w v l
  addr : ok = true → ∃ a n cp, v = .slice (some a) n cp
theorem own_addr {w : World} {base : Nat} {v : Value} {l : List UInt8} (h : OwnB w base v l) (hne : l ≠ []) : ∃ a n cp, v = .slice (some a) n cp := by
  rcases h.row.2 with ⟨_, h0⟩ | ⟨g, cap, cur, e, _⟩
  · exact absurd (List.eq_nil_of_length_eq_zero h0) hne
  · exact ⟨_, _, _, e⟩
theorem numB_ne (n size : Nat) (h : 0 < size) : numB n size ≠ [] := fun e => by
  have := numB_length n size
  rw [e] at this
  simp at this
  omega
theorem valB_ne (x : Val) (lx : List Val) : valB x lx ≠ [] := by
  unfold valB
  split
  · intro e
    have := congrArg List.length e
    simp [numB_length] at this
  · exact plainB_ne x
theorem conv_string_at (w : World) (s : ByteArray) : ∃ v w', (convert 9 36 (.string s)).run Try.prog w = .ok v w' ∧ BSrc w' v s.data.toList ∧ Below w.heap.size w w' ∧ ∃ a n cp, v = .slice (some a) n cp := by
  have h := run_bytes_of_string (P := Try.prog) w 9 36 5 s Try.underlying9 Try.underlying36 Try.underlying5
  obtain ⟨v, w', h1, h2, h3, _⟩ := conv_string w s
  rw [h] at h1
  injection h1 with e1 e2
  refine ⟨v, w', by rw [h, e1, e2], h2, h3, ?_⟩
  rw [← e1]
  exact ⟨_, _, _, rfl⟩
/-- a part's value and numbers within their bounds -/
structure PartOk (w : World) (p : PartV) (lx : List Val) : Prop where
  ok : p.Ok
  s : p.s.size ≤ 5000
  full : Full w p.v lx
  i : IOk p.v
  il : ∀ y ∈ lx, IOk y

theorem step_append_s {w : World} {ops : Array Oper} {o : Oper} {a : Act} {K : Act → World → Prop} {Q : Exit → Act → World → Prop} {E : Prop} (hgd : o.guard = none) (s x : Operand)
    (ho : o.op = .call { callee := .builtin .append, args := #[s, x], argTypes := #[36, 9] })
    (base : Nat) (h : List UInt8) (v : Value) (hs : a.eval s = v) (hown' : OwnB w base v h) (u : ByteArray) (hx : a.eval x = .string u) (hlen : h.length + u.size ≤ 100000) (hbase : base ≤ w.heap.size) (r : List UInt8) (hr : r = h ++ u.data.toList)
    (k : ∀ v' w', OwnB w' base v' r → Below base w w' → K (a.put o.dst v') w') : if Region.wanted o (yielded ops a.tmps) = true then Oper.wp Try.prog o a w K Q else E := by
  have hw : Region.wanted o (yielded ops a.tmps) = true := by simp [Region.wanted, hgd]
  rw [if_pos hw]
  obtain ⟨i, hi, hz, hsz, hby⟩ := info_parts (show (Try.prog.info? 5).map (fun i => (i.zero, i.size, i.bytes)) = some (some (.int .u8 0), 1, 1) by kernel_rfl)
  subst hr
  have hown := hown'.row
  obtain ⟨v', w', hrun, h2, h3, _⟩ := Lib.run_append_own_string (P := Try.prog) w base 36 9 o.type 5 i Try.underlying36 Try.underlying9 hi hz hsz hby v h.length (h.map B) hown u (by unfold maxLen; omega) (by omega) hbase
  unfold Oper.wp
  simp [execOp, ho, resolve, invoke, builtin, hs, hx, hrun, Result.andThen]
  refine k v' w' ⟨?_⟩ ((Below.refl base w).grown h3 hbase (fun b hb => (hown.lt b hb).1))
  have e1 : (h ++ u.data.toList).length = h.length + u.size := by simp
  have e2 : (h ++ u.data.toList).map B = h.map B ++ Lib.strCells u := by simp [Lib.strCells]
  rw [e1, e2]; exact h2
theorem idx_size (w : World) : (Instr.index 78 (.agg #[.int .i64 1, .int .i64 2, .int .i64 4]) (.int .u8 0)).run Try.prog w = .ok (.int .i64 1) w ∧ (Instr.index 78 (.agg #[.int .i64 1, .int .i64 2, .int .i64 4]) (.int .u8 1)).run Try.prog w = .ok (.int .i64 2) w ∧ (Instr.index 78 (.agg #[.int .i64 1, .int .i64 2, .int .i64 4]) (.int .u8 2)).run Try.prog w = .ok (.int .i64 4) w := ⟨by kernel_rfl, by kernel_rfl, by kernel_rfl⟩
theorem idx_most (w : World) : (Instr.index 79 (.agg #[.int .i64 256, .int .i64 65536, .int .i64 4294967296]) (.int .u8 0)).run Try.prog w = .ok (.int .i64 256) w ∧ (Instr.index 79 (.agg #[.int .i64 256, .int .i64 65536, .int .i64 4294967296]) (.int .u8 1)).run Try.prog w = .ok (.int .i64 65536) w ∧ (Instr.index 79 (.agg #[.int .i64 256, .int .i64 65536, .int .i64 4294967296]) (.int .u8 2)).run Try.prog w = .ok (.int .i64 4294967296) w := ⟨by kernel_rfl, by kernel_rfl, by kernel_rfl⟩
set_option maxRecDepth 100000 in
set_option maxHeartbeats 4000000 in
theorem refBytes_any (w : World) (p : PartV) (lx : List Val) (h : PartOk w p lx) :
    Calls Try.prog 38 #[p.val] w fun e w' => ∃ v, e = .returned (.tuple #[v, .bool (bytesOk p lx)]) ∧ SrcIf (bytesOk p lx) w' v (bytesB p lx) ∧ Below w.heap.size w w' := by
  have hq := h.ok.q
  have hn1 := h.ok.n1
  have hn2 := h.ok.n2
  have hs5 := h.s
  obtain ⟨W1, hW1⟩ : ∃ W1, w.alloc (.cells #[.int .u8 (p.q : Int), .int .i64 p.n, .string p.s, .int .i64 p.v.k, .int .i64 p.v.i, .string p.v.s, .slice p.v.a p.v.n p.v.c] 35) = W1 := ⟨_, rfl⟩
  have hB : Below w.heap.size w W1 := by rw [← hW1]; exact (Below.refl _ _).alloc (Nat.le_refl _) _
  have hz : W1.heap[w.heap.size]? = some (.cells #[.int .u8 (p.q : Int), .int .i64 p.n, .string p.s, .int .i64 p.v.k, .int .i64 p.v.i, .string p.v.s, .slice p.v.a p.v.n p.v.c] 35 (0, 0)) := by rw [← hW1]; exact heap_alloc_new _ _
  have HW1 := Lib.hid hW1
  have HB := Lib.hid hB
  have HZ := Lib.hid hz
  have HP := Lib.hid h
  obtain ⟨r, hr⟩ : ∃ r, p.q % 8 = r := ⟨_, rfl⟩
  have hr8 : r < 8 := by omega
  have hri : (p.q : Int) % 8 = (r : Int) := by omega
  have EO : Hid (bytesOk p lx = if r = 0 then decide (0 ≤ p.n ∧ p.n < 256) else if r = 1 then decide (0 ≤ p.n ∧ p.n < 65536) else if r = 2 then decide (0 ≤ p.n ∧ p.n < 4294967296)
    else if r = 3 then true else if r = 4 then true else if r = 5 then decide (p.s.size ≤ 4096) else if r = 6 then true else p.v.formed lx) := Lib.hid (by rw [← hr]; rfl)
  have EB : Hid (bytesB p lx = if r = 0 then numB p.n.toNat 1 else if r = 1 then numB p.n.toNat 2 else if r = 2 then numB p.n.toNat 4
    else if r = 3 then numB (p.n % 18446744073709551616).toNat 8 else if r = 4 then numB (p.n % 18446744073709551616 % 2).toNat 1
    else if r = 5 then numB p.s.size 2 ++ tb p.s else if r = 6 then tb p.s else valB p.v lx) := Lib.hid (by rw [← hr]; rfl)
  clear hW1 hB hz h hr
  unfold PartV.val
  go_enter Try.func38, Try.ntmps38
  obtain rfl | rfl | rfl | rfl | rfl | rfl | rfl | rfl : r = 0 ∨ r = 1 ∨ r = 2 ∨ r = 3 ∨ r = 4 ∨ r = 5 ∨ r = 6 ∨ r = 7 := by omega
  · have i1 := fun W => (idx_size W).1
    have i2 := fun W => (idx_most W).1
    by_cases hn : 0 ≤ p.n ∧ p.n < 256
    · have eo : bytesOk p lx = true := EO.out.trans (decide_eq_true hn)
      have eb : bytesB p lx = numB p.n.toNat 1 := EB.out
      have C := Lib.hid (fun W => refNumber_any W p.n.toNat 1 (by omega) (by omega) (by omega))
      rw [show ((p.n.toNat : Nat) : Int) = p.n by omega] at C
      rw [eo, eb]
      clear EO EB eo eb
      have hw : IntKind.u64.wrap p.n = p.n := by rw [IntKind.wrap_u64]; omega
      have hn' : ¬ p.n < 0 := by omega
      have hn'' : ¬ 256 ≤ p.n := by omega
      go_wp2_with fail
      refine (C.out _).mono ?_
      rintro e w2 ⟨v, rfl, hv, hb⟩
      rw [HW1.out] at hb
      have HS := Lib.hid hv.src
      have HAD := Lib.hid (own_addr hv (numB_ne _ _ (by omega)))
      have HB2 := Lib.hid (HB.out.trans (hb.mono HB.out.size))
      clear hv hb C
      go_wp2_with fail
      refine bodyPost_ret (v := .tuple #[v, .bool true]) (by simp [results, Try.results38, go_sem]) rfl ?_
      exact ⟨_, rfl, ⟨fun _ => HS.out, fun _ => HAD.out⟩, HB2.out⟩
    · have eo : bytesOk p lx = false := EO.out.trans (decide_eq_false hn)
      rw [eo]
      clear EO EB eo
      by_cases hneg : p.n < 0
      · go_wp2_with fail
        refine bodyPost_ret (v := .tuple #[.slice none 0 0, .bool false]) (by simp [results, Try.results38, go_sem]) rfl ?_
        exact ⟨_, rfl, ⟨fun h => (by cases h), fun h => (by cases h)⟩, by rw [HW1.out]; exact HB.out⟩
      · have hge : 256 ≤ p.n := by omega
        go_wp2_with fail
        refine bodyPost_ret (v := .tuple #[.slice none 0 0, .bool false]) (by simp [results, Try.results38, go_sem]) rfl ?_
        exact ⟨_, rfl, ⟨fun h => (by cases h), fun h => (by cases h)⟩, by rw [HW1.out]; exact HB.out⟩
  · have i1 := fun W => (idx_size W).2.1
    have i2 := fun W => (idx_most W).2.1
    by_cases hn : 0 ≤ p.n ∧ p.n < 65536
    · have eo : bytesOk p lx = true := EO.out.trans (decide_eq_true hn)
      have eb : bytesB p lx = numB p.n.toNat 2 := EB.out
      have C := Lib.hid (fun W => refNumber_any W p.n.toNat 2 (by omega) (by omega) (by omega))
      rw [show ((p.n.toNat : Nat) : Int) = p.n by omega] at C
      rw [eo, eb]
      clear EO EB eo eb
      have hw : IntKind.u64.wrap p.n = p.n := by rw [IntKind.wrap_u64]; omega
      have hn' : ¬ p.n < 0 := by omega
      have hn'' : ¬ 65536 ≤ p.n := by omega
      go_wp2_with fail
      refine (C.out _).mono ?_
      rintro e w2 ⟨v, rfl, hv, hb⟩
      rw [HW1.out] at hb
      have HS := Lib.hid hv.src
      have HAD := Lib.hid (own_addr hv (numB_ne _ _ (by omega)))
      have HB2 := Lib.hid (HB.out.trans (hb.mono HB.out.size))
      clear hv hb C
      go_wp2_with fail
      refine bodyPost_ret (v := .tuple #[v, .bool true]) (by simp [results, Try.results38, go_sem]) rfl ?_
      exact ⟨_, rfl, ⟨fun _ => HS.out, fun _ => HAD.out⟩, HB2.out⟩
    · have eo : bytesOk p lx = false := EO.out.trans (decide_eq_false hn)
      rw [eo]
      clear EO EB eo
      by_cases hneg : p.n < 0
      · go_wp2_with fail
        refine bodyPost_ret (v := .tuple #[.slice none 0 0, .bool false]) (by simp [results, Try.results38, go_sem]) rfl ?_
        exact ⟨_, rfl, ⟨fun h => (by cases h), fun h => (by cases h)⟩, by rw [HW1.out]; exact HB.out⟩
      · have hge : 65536 ≤ p.n := by omega
        go_wp2_with fail
        refine bodyPost_ret (v := .tuple #[.slice none 0 0, .bool false]) (by simp [results, Try.results38, go_sem]) rfl ?_
        exact ⟨_, rfl, ⟨fun h => (by cases h), fun h => (by cases h)⟩, by rw [HW1.out]; exact HB.out⟩
  · have i1 := fun W => (idx_size W).2.2
    have i2 := fun W => (idx_most W).2.2
    by_cases hn : 0 ≤ p.n ∧ p.n < 4294967296
    · have eo : bytesOk p lx = true := EO.out.trans (decide_eq_true hn)
      have eb : bytesB p lx = numB p.n.toNat 4 := EB.out
      have C := Lib.hid (fun W => refNumber_any W p.n.toNat 4 (by omega) (by omega) (by omega))
      rw [show ((p.n.toNat : Nat) : Int) = p.n by omega] at C
      rw [eo, eb]
      clear EO EB eo eb
      have hw : IntKind.u64.wrap p.n = p.n := by rw [IntKind.wrap_u64]; omega
      have hn' : ¬ p.n < 0 := by omega
      have hn'' : ¬ 4294967296 ≤ p.n := by omega
      go_wp2_with fail
      refine (C.out _).mono ?_
      rintro e w2 ⟨v, rfl, hv, hb⟩
      rw [HW1.out] at hb
      have HS := Lib.hid hv.src
      have HAD := Lib.hid (own_addr hv (numB_ne _ _ (by omega)))
      have HB2 := Lib.hid (HB.out.trans (hb.mono HB.out.size))
      clear hv hb C
      go_wp2_with fail
      refine bodyPost_ret (v := .tuple #[v, .bool true]) (by simp [results, Try.results38, go_sem]) rfl ?_
      exact ⟨_, rfl, ⟨fun _ => HS.out, fun _ => HAD.out⟩, HB2.out⟩
    · have eo : bytesOk p lx = false := EO.out.trans (decide_eq_false hn)
      rw [eo]
      clear EO EB eo
      by_cases hneg : p.n < 0
      · go_wp2_with fail
        refine bodyPost_ret (v := .tuple #[.slice none 0 0, .bool false]) (by simp [results, Try.results38, go_sem]) rfl ?_
        exact ⟨_, rfl, ⟨fun h => (by cases h), fun h => (by cases h)⟩, by rw [HW1.out]; exact HB.out⟩
      · have hge : 4294967296 ≤ p.n := by omega
        go_wp2_with fail
        refine bodyPost_ret (v := .tuple #[.slice none 0 0, .bool false]) (by simp [results, Try.results38, go_sem]) rfl ?_
        exact ⟨_, rfl, ⟨fun h => (by cases h), fun h => (by cases h)⟩, by rw [HW1.out]; exact HB.out⟩
  · have eo : bytesOk p lx = true := EO.out
    have eb : bytesB p lx = numB (p.n % 18446744073709551616).toNat 8 := EB.out
    obtain ⟨q, hq'⟩ : ∃ q : Nat, (p.n % 18446744073709551616).toNat = q := ⟨_, rfl⟩
    have hqi : p.n % 18446744073709551616 = (q : Int) := by omega
    have hw : IntKind.u64.wrap p.n = (q : Int) := by rw [← hqi]; rfl
    have C := Lib.hid (fun W => refNumber_any W q 8 (by omega) (by omega) (by omega))
    rw [eo, eb, hq']
    clear EO EB eo eb hq' hqi
    go_wp2_with fail
    refine (C.out _).mono ?_
    rintro e w2 ⟨v, rfl, hv, hb⟩
    rw [HW1.out] at hb
    have HS := Lib.hid hv.src
    have HAD := Lib.hid (own_addr hv (numB_ne _ _ (by omega)))
    have HB2 := Lib.hid (HB.out.trans (hb.mono HB.out.size))
    clear hv hb C
    go_wp2_with fail
    refine bodyPost_ret (v := .tuple #[v, .bool true]) (by simp [results, Try.results38, go_sem]) rfl ?_
    exact ⟨_, rfl, ⟨fun _ => HS.out, fun _ => HAD.out⟩, HB2.out⟩
  · have eo : bytesOk p lx = true := EO.out
    have eb : bytesB p lx = numB (p.n % 18446744073709551616 % 2).toNat 1 := EB.out
    have eq1 : Value.int .u8 ((IntKind.u64.wrap p.n).tmod 2 % 256) = B (UInt8.ofNat (p.n % 18446744073709551616 % 2).toNat) := by
      unfold B
      rw [IntKind.wrap_u64, Int.tmod_eq_emod_of_nonneg (by omega), UInt8.toNat_ofNat']
      congr 1
      omega
    rw [eo, eb, numB_one]
    have HE := Lib.hid eq1
    clear EO EB eo eb eq1
    go_wp2_with fail
    refine bodyPost_ret (v := .tuple #[.slice (some ⟨w.heap.size + 1, 0, none⟩) 1 1, .bool true]) (by simp [results, Try.results38, go_sem]) rfl ?_
    exact ⟨_, rfl, ⟨fun _ => (own_at (base := 0) (by rw [← HE.out]; exact heap2 _ _ _) (Nat.zero_le _)).src, fun _ => ⟨_, _, _, rfl⟩⟩, below2 _ _ _⟩
  · have eo : bytesOk p lx = decide (p.s.size ≤ 4096) := EO.out
    have eb : bytesB p lx = numB p.s.size 2 ++ tb p.s := EB.out
    have C := Lib.hid (fun W => refNumber_any W p.s.size 2 (by omega) (by omega) (by omega))
    have HN2 := Lib.hid (numB_length p.s.size 2)
    rw [eo, eb]
    obtain ⟨ok, hok⟩ : ∃ ok, decide (p.s.size ≤ 4096) = ok := ⟨_, rfl⟩
    rw [hok]
    have HOK : Hid (decide ((p.s.size : Int) ≤ 4096) = ok) := Lib.hid (by rw [← hok]; congr 1; exact propext ⟨fun h => by omega, fun h => by omega⟩)
    clear EO EB eo eb hok
    go_wp2_with fail
    rw [HW1.out]
    have s2 : W1.cell? ⟨w.heap.size, 2, none⟩ = some (.string p.s) := cell_block HZ.out 2
    have hl1 : w.heap.size < W1.heap.size := lt_block HZ.out
    have hwz : IntKind.u64.wrap (p.s.size : Int) = p.s.size := by rw [IntKind.wrap_u64]; omega
    have CD := Lib.hid (C.out W1.drew)
    clear C
    refine wp_region_any (by kernel_rfl) ?_
    change wpAny _ _ _ _ _ _ _ (World.drew _)
    refine wpAny_take (i := 0) (v := ?_) rfl (by kernel_rfl) (by kernel_rfl) (by kernel_rfl) (fun _ _ _ h => h) (Or.inl ⟨by rfl, ?_⟩) ?_
    rotate_left 1
    · intro w; go_simp; try with_reducible rfl
    refine wpAny_take (i := 5) (v := ?_) rfl (by kernel_rfl) (by kernel_rfl) (by kernel_rfl) (fun _ _ _ h => h) (Or.inl ⟨by rfl, ?_⟩) ?_
    rotate_left 1
    · intro w; go_simp; try with_reducible rfl
    refine wpAny_take (i := 8) (v := ?_) rfl (by kernel_rfl) (by kernel_rfl) (by kernel_rfl) (fun _ _ _ h => h) (Or.inl ⟨by rfl, ?_⟩) ?_
    rotate_left 1
    · intro w; go_simp; try with_reducible rfl
    refine wpAny_ready (rs := [1, 6, 9]) (by kernel_rfl) (by simp) ?_
    refine AllReady.cons rfl (fun K hK => ?_) ?_
    · go_simp
      refine hK _ _ ?_; clear hK K
      refine wpAny_take (i := 2) (v := ?_) rfl (by kernel_rfl) (by kernel_rfl) (by kernel_rfl) (fun _ _ _ h => h) (Or.inl ⟨by rfl, ?_⟩) ?_
      rotate_left 1
      · intro w; go_simp; try with_reducible rfl
      refine wpAny_take (i := 3) (v := ?_) rfl (by kernel_rfl) (by kernel_rfl) (by kernel_rfl) (fun _ _ _ h => h) (Or.inl ⟨by rfl, ?_⟩) ?_
      rotate_left 1
      · intro w; go_simp; try with_reducible rfl
      refine wpAny_ready (rs := [4, 6, 9]) (by kernel_rfl) (by simp) ?_
      refine AllReady.cons rfl (fun K hK => ?_) ?_
      · go_simp
        go_wp2_with (go_at_call 47; refine CD.out.mono ?_; rintro e w2 ⟨v, rfl, hv, hb⟩; have HO2 := Lib.hid hv; have hl12 : W1.heap.size ≤ w2.heap.size := hb.size; have hbz := (hb.block _ (show w.heap.size < W1.drew.heap.size from hl1)).trans HZ.out; have s22 : w2.cell? ⟨w.heap.size, 2, none⟩ = some (.string p.s) := cell_block hbz 2; have hl2 : w.heap.size < w2.heap.size := lt_block hbz; have HZ2 := Lib.hid hbz; have HB2 := Lib.hid (HB.out.drew.trans (hb.mono HB.out.size)); clear hv hb hbz)
        refine wpAny_ready (rs := [6, 9]) (by kernel_rfl) (by simp) ?_
        refine AllReady.cons rfl (fun K hK => ?_) ?_
        · go_simp
          refine hK _ _ ?_; clear hK K
          refine wpAny_ready (rs := [7, 9]) (by kernel_rfl) (by simp) ?_
          refine AllReady.cons rfl (fun K hK => ?_) ?_
          · refine step_append_s rfl (.tmp 57) (.tmp 59) rfl W1.heap.size (numB p.s.size 2) _ rfl HO2.out p.s rfl (by rw [HN2.out]; omega) hl12 (numB p.s.size 2 ++ tb p.s) rfl ?_
            intro v3 w3 hown hb3
            have HS := Lib.hid hown.src
            have HAD := Lib.hid (own_addr hown (fun e => numB_ne p.s.size 2 (by omega) (List.append_eq_nil_iff.1 e).1))
            have HB3 := Lib.hid (HB2.out.trans (hb3.mono (Nat.le_of_lt hl1)))
            have hz3 := (hb3.block _ hl1).trans HZ2.out
            have s23 : w3.cell? ⟨w.heap.size, 2, none⟩ = some (.string p.s) := cell_block hz3 2
            have hl3 : w.heap.size < w3.heap.size := lt_block hz3
            clear hown hb3 hz3
            refine hK _ _ ?_; clear hK K
            refine wpAny_take (i := 12) (v := ?_) rfl (by kernel_rfl) (by kernel_rfl) (by kernel_rfl) (fun _ _ _ h => h) (Or.inl ⟨by rfl, ?_⟩) ?_
            rotate_left 1
            · intro w; go_simp; try with_reducible rfl
            refine wpAny_ready (rs := [9]) (by kernel_rfl) (by simp) ?_
            refine AllReady.cons rfl (fun K hK => ?_) ?_
            · go_simp
              refine hK _ _ ?_; clear hK K
              refine wpAny_ready (rs := [10]) (by kernel_rfl) (by simp) ?_
              refine AllReady.cons rfl (fun K hK => ?_) ?_
              · go_simp
                refine hK _ _ ?_; clear hK K
                refine wpAny_ready (rs := [11]) (by kernel_rfl) (by simp) ?_
                refine AllReady.cons rfl (fun K hK => ?_) ?_
                · go_simp
                  refine hK _ _ ?_; clear hK K
                  refine wpAny_ready (rs := [13]) (by kernel_rfl) (by simp) ?_
                  refine AllReady.cons rfl (fun K hK => ?_) ?_
                  · go_simp
                    refine hK _ _ ?_; clear hK K
                    refine wpAny_done (by kernel_rfl) ?_ _
                    (go_wp2_with fail; rw [HOK.out]; exact bodyPost_ret (v := .tuple #[v3, .bool ok]) (by simp [results, Try.results38, go_sem]) rfl ⟨_, rfl, ⟨fun _ => HS.out, fun _ => HAD.out⟩, HB3.out⟩)
                  exact AllReady.nil
                exact AllReady.nil
              exact AllReady.nil
            exact AllReady.nil
          refine AllReady.cons rfl (fun K hK => ?_) ?_
          · go_simp
            refine hK _ _ ?_; clear hK K
            refine wpAny_take (i := 10) (v := ?_) rfl (by kernel_rfl) (by kernel_rfl) (by kernel_rfl) (fun _ _ _ h => h) (Or.inl ⟨by rfl, ?_⟩) ?_
            rotate_left 1
            · intro w; go_simp; try with_reducible rfl
            refine wpAny_take (i := 11) (v := ?_) rfl (by kernel_rfl) (by kernel_rfl) (by kernel_rfl) (fun _ _ _ h => h) (Or.inl ⟨by rfl, ?_⟩) ?_
            rotate_left 1
            · intro w; go_simp; try with_reducible rfl
            refine wpAny_ready (rs := [7]) (by kernel_rfl) (by simp) ?_
            refine AllReady.cons rfl (fun K hK => ?_) ?_
            · refine step_append_s rfl (.tmp 57) (.tmp 59) rfl W1.heap.size (numB p.s.size 2) _ rfl HO2.out p.s rfl (by rw [HN2.out]; omega) hl12 (numB p.s.size 2 ++ tb p.s) rfl ?_
              intro v3 w3 hown hb3
              have HS := Lib.hid hown.src
              have HAD := Lib.hid (own_addr hown (fun e => numB_ne p.s.size 2 (by omega) (List.append_eq_nil_iff.1 e).1))
              have HB3 := Lib.hid (HB2.out.trans (hb3.mono (Nat.le_of_lt hl1)))
              have hz3 := (hb3.block _ hl1).trans HZ2.out
              have s23 : w3.cell? ⟨w.heap.size, 2, none⟩ = some (.string p.s) := cell_block hz3 2
              have hl3 : w.heap.size < w3.heap.size := lt_block hz3
              clear hown hb3 hz3
              refine hK _ _ ?_; clear hK K
              refine wpAny_ready (rs := [12]) (by kernel_rfl) (by simp) ?_
              refine AllReady.cons rfl (fun K hK => ?_) ?_
              · go_simp
                refine hK _ _ ?_; clear hK K
                refine wpAny_ready (rs := [13]) (by kernel_rfl) (by simp) ?_
                refine AllReady.cons rfl (fun K hK => ?_) ?_
                · go_simp
                  refine hK _ _ ?_; clear hK K
                  refine wpAny_done (by kernel_rfl) ?_ _
                  (go_wp2_with fail; rw [HOK.out]; exact bodyPost_ret (v := .tuple #[v3, .bool ok]) (by simp [results, Try.results38, go_sem]) rfl ⟨_, rfl, ⟨fun _ => HS.out, fun _ => HAD.out⟩, HB3.out⟩)
                exact AllReady.nil
              exact AllReady.nil
            exact AllReady.nil
          exact AllReady.nil
        refine AllReady.cons rfl (fun K hK => ?_) ?_
        · go_simp
          refine hK _ _ ?_; clear hK K
          refine wpAny_take (i := 10) (v := ?_) rfl (by kernel_rfl) (by kernel_rfl) (by kernel_rfl) (fun _ _ _ h => h) (Or.inl ⟨by rfl, ?_⟩) ?_
          rotate_left 1
          · intro w; go_simp; try with_reducible rfl
          refine wpAny_take (i := 11) (v := ?_) rfl (by kernel_rfl) (by kernel_rfl) (by kernel_rfl) (fun _ _ _ h => h) (Or.inl ⟨by rfl, ?_⟩) ?_
          rotate_left 1
          · intro w; go_simp; try with_reducible rfl
          refine wpAny_ready (rs := [6]) (by kernel_rfl) (by simp) ?_
          refine AllReady.cons rfl (fun K hK => ?_) ?_
          · go_simp
            refine hK _ _ ?_; clear hK K
            refine wpAny_ready (rs := [7]) (by kernel_rfl) (by simp) ?_
            refine AllReady.cons rfl (fun K hK => ?_) ?_
            · refine step_append_s rfl (.tmp 57) (.tmp 59) rfl W1.heap.size (numB p.s.size 2) _ rfl HO2.out p.s rfl (by rw [HN2.out]; omega) hl12 (numB p.s.size 2 ++ tb p.s) rfl ?_
              intro v3 w3 hown hb3
              have HS := Lib.hid hown.src
              have HAD := Lib.hid (own_addr hown (fun e => numB_ne p.s.size 2 (by omega) (List.append_eq_nil_iff.1 e).1))
              have HB3 := Lib.hid (HB2.out.trans (hb3.mono (Nat.le_of_lt hl1)))
              have hz3 := (hb3.block _ hl1).trans HZ2.out
              have s23 : w3.cell? ⟨w.heap.size, 2, none⟩ = some (.string p.s) := cell_block hz3 2
              have hl3 : w.heap.size < w3.heap.size := lt_block hz3
              clear hown hb3 hz3
              refine hK _ _ ?_; clear hK K
              refine wpAny_ready (rs := [12]) (by kernel_rfl) (by simp) ?_
              refine AllReady.cons rfl (fun K hK => ?_) ?_
              · go_simp
                refine hK _ _ ?_; clear hK K
                refine wpAny_ready (rs := [13]) (by kernel_rfl) (by simp) ?_
                refine AllReady.cons rfl (fun K hK => ?_) ?_
                · go_simp
                  refine hK _ _ ?_; clear hK K
                  refine wpAny_done (by kernel_rfl) ?_ _
                  (go_wp2_with fail; rw [HOK.out]; exact bodyPost_ret (v := .tuple #[v3, .bool ok]) (by simp [results, Try.results38, go_sem]) rfl ⟨_, rfl, ⟨fun _ => HS.out, fun _ => HAD.out⟩, HB3.out⟩)
                exact AllReady.nil
              exact AllReady.nil
            exact AllReady.nil
          exact AllReady.nil
        exact AllReady.nil
      refine AllReady.cons rfl (fun K hK => ?_) ?_
      · go_simp
        refine hK _ _ ?_; clear hK K
        refine wpAny_ready (rs := [4, 9]) (by kernel_rfl) (by simp) ?_
        refine AllReady.cons rfl (fun K hK => ?_) ?_
        · go_simp
          go_wp2_with (go_at_call 47; refine CD.out.mono ?_; rintro e w2 ⟨v, rfl, hv, hb⟩; have HO2 := Lib.hid hv; have hl12 : W1.heap.size ≤ w2.heap.size := hb.size; have hbz := (hb.block _ (show w.heap.size < W1.drew.heap.size from hl1)).trans HZ.out; have s22 : w2.cell? ⟨w.heap.size, 2, none⟩ = some (.string p.s) := cell_block hbz 2; have hl2 : w.heap.size < w2.heap.size := lt_block hbz; have HZ2 := Lib.hid hbz; have HB2 := Lib.hid (HB.out.drew.trans (hb.mono HB.out.size)); clear hv hb hbz)
          refine wpAny_ready (rs := [7, 9]) (by kernel_rfl) (by simp) ?_
          refine AllReady.cons rfl (fun K hK => ?_) ?_
          · refine step_append_s rfl (.tmp 57) (.tmp 59) rfl W1.heap.size (numB p.s.size 2) _ rfl HO2.out p.s rfl (by rw [HN2.out]; omega) hl12 (numB p.s.size 2 ++ tb p.s) rfl ?_
            intro v3 w3 hown hb3
            have HS := Lib.hid hown.src
            have HAD := Lib.hid (own_addr hown (fun e => numB_ne p.s.size 2 (by omega) (List.append_eq_nil_iff.1 e).1))
            have HB3 := Lib.hid (HB2.out.trans (hb3.mono (Nat.le_of_lt hl1)))
            have hz3 := (hb3.block _ hl1).trans HZ2.out
            have s23 : w3.cell? ⟨w.heap.size, 2, none⟩ = some (.string p.s) := cell_block hz3 2
            have hl3 : w.heap.size < w3.heap.size := lt_block hz3
            clear hown hb3 hz3
            refine hK _ _ ?_; clear hK K
            refine wpAny_take (i := 12) (v := ?_) rfl (by kernel_rfl) (by kernel_rfl) (by kernel_rfl) (fun _ _ _ h => h) (Or.inl ⟨by rfl, ?_⟩) ?_
            rotate_left 1
            · intro w; go_simp; try with_reducible rfl
            refine wpAny_ready (rs := [9]) (by kernel_rfl) (by simp) ?_
            refine AllReady.cons rfl (fun K hK => ?_) ?_
            · go_simp
              refine hK _ _ ?_; clear hK K
              refine wpAny_ready (rs := [10]) (by kernel_rfl) (by simp) ?_
              refine AllReady.cons rfl (fun K hK => ?_) ?_
              · go_simp
                refine hK _ _ ?_; clear hK K
                refine wpAny_ready (rs := [11]) (by kernel_rfl) (by simp) ?_
                refine AllReady.cons rfl (fun K hK => ?_) ?_
                · go_simp
                  refine hK _ _ ?_; clear hK K
                  refine wpAny_ready (rs := [13]) (by kernel_rfl) (by simp) ?_
                  refine AllReady.cons rfl (fun K hK => ?_) ?_
                  · go_simp
                    refine hK _ _ ?_; clear hK K
                    refine wpAny_done (by kernel_rfl) ?_ _
                    (go_wp2_with fail; rw [HOK.out]; exact bodyPost_ret (v := .tuple #[v3, .bool ok]) (by simp [results, Try.results38, go_sem]) rfl ⟨_, rfl, ⟨fun _ => HS.out, fun _ => HAD.out⟩, HB3.out⟩)
                  exact AllReady.nil
                exact AllReady.nil
              exact AllReady.nil
            exact AllReady.nil
          refine AllReady.cons rfl (fun K hK => ?_) ?_
          · go_simp
            refine hK _ _ ?_; clear hK K
            refine wpAny_take (i := 10) (v := ?_) rfl (by kernel_rfl) (by kernel_rfl) (by kernel_rfl) (fun _ _ _ h => h) (Or.inl ⟨by rfl, ?_⟩) ?_
            rotate_left 1
            · intro w; go_simp; try with_reducible rfl
            refine wpAny_take (i := 11) (v := ?_) rfl (by kernel_rfl) (by kernel_rfl) (by kernel_rfl) (fun _ _ _ h => h) (Or.inl ⟨by rfl, ?_⟩) ?_
            rotate_left 1
            · intro w; go_simp; try with_reducible rfl
            refine wpAny_ready (rs := [7]) (by kernel_rfl) (by simp) ?_
            refine AllReady.cons rfl (fun K hK => ?_) ?_
            · refine step_append_s rfl (.tmp 57) (.tmp 59) rfl W1.heap.size (numB p.s.size 2) _ rfl HO2.out p.s rfl (by rw [HN2.out]; omega) hl12 (numB p.s.size 2 ++ tb p.s) rfl ?_
              intro v3 w3 hown hb3
              have HS := Lib.hid hown.src
              have HAD := Lib.hid (own_addr hown (fun e => numB_ne p.s.size 2 (by omega) (List.append_eq_nil_iff.1 e).1))
              have HB3 := Lib.hid (HB2.out.trans (hb3.mono (Nat.le_of_lt hl1)))
              have hz3 := (hb3.block _ hl1).trans HZ2.out
              have s23 : w3.cell? ⟨w.heap.size, 2, none⟩ = some (.string p.s) := cell_block hz3 2
              have hl3 : w.heap.size < w3.heap.size := lt_block hz3
              clear hown hb3 hz3
              refine hK _ _ ?_; clear hK K
              refine wpAny_ready (rs := [12]) (by kernel_rfl) (by simp) ?_
              refine AllReady.cons rfl (fun K hK => ?_) ?_
              · go_simp
                refine hK _ _ ?_; clear hK K
                refine wpAny_ready (rs := [13]) (by kernel_rfl) (by simp) ?_
                refine AllReady.cons rfl (fun K hK => ?_) ?_
                · go_simp
                  refine hK _ _ ?_; clear hK K
                  refine wpAny_done (by kernel_rfl) ?_ _
                  (go_wp2_with fail; rw [HOK.out]; exact bodyPost_ret (v := .tuple #[v3, .bool ok]) (by simp [results, Try.results38, go_sem]) rfl ⟨_, rfl, ⟨fun _ => HS.out, fun _ => HAD.out⟩, HB3.out⟩)
                exact AllReady.nil
              exact AllReady.nil
            exact AllReady.nil
          exact AllReady.nil
        refine AllReady.cons rfl (fun K hK => ?_) ?_
        · go_simp
          refine hK _ _ ?_; clear hK K
          refine wpAny_take (i := 10) (v := ?_) rfl (by kernel_rfl) (by kernel_rfl) (by kernel_rfl) (fun _ _ _ h => h) (Or.inl ⟨by rfl, ?_⟩) ?_
          rotate_left 1
          · intro w; go_simp; try with_reducible rfl
          refine wpAny_take (i := 11) (v := ?_) rfl (by kernel_rfl) (by kernel_rfl) (by kernel_rfl) (fun _ _ _ h => h) (Or.inl ⟨by rfl, ?_⟩) ?_
          rotate_left 1
          · intro w; go_simp; try with_reducible rfl
          refine wpAny_ready (rs := [4]) (by kernel_rfl) (by simp) ?_
          refine AllReady.cons rfl (fun K hK => ?_) ?_
          · go_simp
            go_wp2_with (go_at_call 47; refine CD.out.mono ?_; rintro e w2 ⟨v, rfl, hv, hb⟩; have HO2 := Lib.hid hv; have hl12 : W1.heap.size ≤ w2.heap.size := hb.size; have hbz := (hb.block _ (show w.heap.size < W1.drew.heap.size from hl1)).trans HZ.out; have s22 : w2.cell? ⟨w.heap.size, 2, none⟩ = some (.string p.s) := cell_block hbz 2; have hl2 : w.heap.size < w2.heap.size := lt_block hbz; have HZ2 := Lib.hid hbz; have HB2 := Lib.hid (HB.out.drew.trans (hb.mono HB.out.size)); clear hv hb hbz)
            refine wpAny_ready (rs := [7]) (by kernel_rfl) (by simp) ?_
            refine AllReady.cons rfl (fun K hK => ?_) ?_
            · refine step_append_s rfl (.tmp 57) (.tmp 59) rfl W1.heap.size (numB p.s.size 2) _ rfl HO2.out p.s rfl (by rw [HN2.out]; omega) hl12 (numB p.s.size 2 ++ tb p.s) rfl ?_
              intro v3 w3 hown hb3
              have HS := Lib.hid hown.src
              have HAD := Lib.hid (own_addr hown (fun e => numB_ne p.s.size 2 (by omega) (List.append_eq_nil_iff.1 e).1))
              have HB3 := Lib.hid (HB2.out.trans (hb3.mono (Nat.le_of_lt hl1)))
              have hz3 := (hb3.block _ hl1).trans HZ2.out
              have s23 : w3.cell? ⟨w.heap.size, 2, none⟩ = some (.string p.s) := cell_block hz3 2
              have hl3 : w.heap.size < w3.heap.size := lt_block hz3
              clear hown hb3 hz3
              refine hK _ _ ?_; clear hK K
              refine wpAny_ready (rs := [12]) (by kernel_rfl) (by simp) ?_
              refine AllReady.cons rfl (fun K hK => ?_) ?_
              · go_simp
                refine hK _ _ ?_; clear hK K
                refine wpAny_ready (rs := [13]) (by kernel_rfl) (by simp) ?_
                refine AllReady.cons rfl (fun K hK => ?_) ?_
                · go_simp
                  refine hK _ _ ?_; clear hK K
                  refine wpAny_done (by kernel_rfl) ?_ _
                  (go_wp2_with fail; rw [HOK.out]; exact bodyPost_ret (v := .tuple #[v3, .bool ok]) (by simp [results, Try.results38, go_sem]) rfl ⟨_, rfl, ⟨fun _ => HS.out, fun _ => HAD.out⟩, HB3.out⟩)
                exact AllReady.nil
              exact AllReady.nil
            exact AllReady.nil
          exact AllReady.nil
        exact AllReady.nil
      refine AllReady.cons rfl (fun K hK => ?_) ?_
      · go_simp
        refine hK _ _ ?_; clear hK K
        refine wpAny_take (i := 10) (v := ?_) rfl (by kernel_rfl) (by kernel_rfl) (by kernel_rfl) (fun _ _ _ h => h) (Or.inl ⟨by rfl, ?_⟩) ?_
        rotate_left 1
        · intro w; go_simp; try with_reducible rfl
        refine wpAny_take (i := 11) (v := ?_) rfl (by kernel_rfl) (by kernel_rfl) (by kernel_rfl) (fun _ _ _ h => h) (Or.inl ⟨by rfl, ?_⟩) ?_
        rotate_left 1
        · intro w; go_simp; try with_reducible rfl
        refine wpAny_ready (rs := [4, 6]) (by kernel_rfl) (by simp) ?_
        refine AllReady.cons rfl (fun K hK => ?_) ?_
        · go_simp
          go_wp2_with (go_at_call 47; refine CD.out.mono ?_; rintro e w2 ⟨v, rfl, hv, hb⟩; have HO2 := Lib.hid hv; have hl12 : W1.heap.size ≤ w2.heap.size := hb.size; have hbz := (hb.block _ (show w.heap.size < W1.drew.heap.size from hl1)).trans HZ.out; have s22 : w2.cell? ⟨w.heap.size, 2, none⟩ = some (.string p.s) := cell_block hbz 2; have hl2 : w.heap.size < w2.heap.size := lt_block hbz; have HZ2 := Lib.hid hbz; have HB2 := Lib.hid (HB.out.drew.trans (hb.mono HB.out.size)); clear hv hb hbz)
          refine wpAny_ready (rs := [6]) (by kernel_rfl) (by simp) ?_
          refine AllReady.cons rfl (fun K hK => ?_) ?_
          · go_simp
            refine hK _ _ ?_; clear hK K
            refine wpAny_ready (rs := [7]) (by kernel_rfl) (by simp) ?_
            refine AllReady.cons rfl (fun K hK => ?_) ?_
            · refine step_append_s rfl (.tmp 57) (.tmp 59) rfl W1.heap.size (numB p.s.size 2) _ rfl HO2.out p.s rfl (by rw [HN2.out]; omega) hl12 (numB p.s.size 2 ++ tb p.s) rfl ?_
              intro v3 w3 hown hb3
              have HS := Lib.hid hown.src
              have HAD := Lib.hid (own_addr hown (fun e => numB_ne p.s.size 2 (by omega) (List.append_eq_nil_iff.1 e).1))
              have HB3 := Lib.hid (HB2.out.trans (hb3.mono (Nat.le_of_lt hl1)))
              have hz3 := (hb3.block _ hl1).trans HZ2.out
              have s23 : w3.cell? ⟨w.heap.size, 2, none⟩ = some (.string p.s) := cell_block hz3 2
              have hl3 : w.heap.size < w3.heap.size := lt_block hz3
              clear hown hb3 hz3
              refine hK _ _ ?_; clear hK K
              refine wpAny_ready (rs := [12]) (by kernel_rfl) (by simp) ?_
              refine AllReady.cons rfl (fun K hK => ?_) ?_
              · go_simp
                refine hK _ _ ?_; clear hK K
                refine wpAny_ready (rs := [13]) (by kernel_rfl) (by simp) ?_
                refine AllReady.cons rfl (fun K hK => ?_) ?_
                · go_simp
                  refine hK _ _ ?_; clear hK K
                  refine wpAny_done (by kernel_rfl) ?_ _
                  (go_wp2_with fail; rw [HOK.out]; exact bodyPost_ret (v := .tuple #[v3, .bool ok]) (by simp [results, Try.results38, go_sem]) rfl ⟨_, rfl, ⟨fun _ => HS.out, fun _ => HAD.out⟩, HB3.out⟩)
                exact AllReady.nil
              exact AllReady.nil
            exact AllReady.nil
          exact AllReady.nil
        refine AllReady.cons rfl (fun K hK => ?_) ?_
        · go_simp
          refine hK _ _ ?_; clear hK K
          refine wpAny_ready (rs := [4]) (by kernel_rfl) (by simp) ?_
          refine AllReady.cons rfl (fun K hK => ?_) ?_
          · go_simp
            go_wp2_with (go_at_call 47; refine CD.out.mono ?_; rintro e w2 ⟨v, rfl, hv, hb⟩; have HO2 := Lib.hid hv; have hl12 : W1.heap.size ≤ w2.heap.size := hb.size; have hbz := (hb.block _ (show w.heap.size < W1.drew.heap.size from hl1)).trans HZ.out; have s22 : w2.cell? ⟨w.heap.size, 2, none⟩ = some (.string p.s) := cell_block hbz 2; have hl2 : w.heap.size < w2.heap.size := lt_block hbz; have HZ2 := Lib.hid hbz; have HB2 := Lib.hid (HB.out.drew.trans (hb.mono HB.out.size)); clear hv hb hbz)
            refine wpAny_ready (rs := [7]) (by kernel_rfl) (by simp) ?_
            refine AllReady.cons rfl (fun K hK => ?_) ?_
            · refine step_append_s rfl (.tmp 57) (.tmp 59) rfl W1.heap.size (numB p.s.size 2) _ rfl HO2.out p.s rfl (by rw [HN2.out]; omega) hl12 (numB p.s.size 2 ++ tb p.s) rfl ?_
              intro v3 w3 hown hb3
              have HS := Lib.hid hown.src
              have HAD := Lib.hid (own_addr hown (fun e => numB_ne p.s.size 2 (by omega) (List.append_eq_nil_iff.1 e).1))
              have HB3 := Lib.hid (HB2.out.trans (hb3.mono (Nat.le_of_lt hl1)))
              have hz3 := (hb3.block _ hl1).trans HZ2.out
              have s23 : w3.cell? ⟨w.heap.size, 2, none⟩ = some (.string p.s) := cell_block hz3 2
              have hl3 : w.heap.size < w3.heap.size := lt_block hz3
              clear hown hb3 hz3
              refine hK _ _ ?_; clear hK K
              refine wpAny_ready (rs := [12]) (by kernel_rfl) (by simp) ?_
              refine AllReady.cons rfl (fun K hK => ?_) ?_
              · go_simp
                refine hK _ _ ?_; clear hK K
                refine wpAny_ready (rs := [13]) (by kernel_rfl) (by simp) ?_
                refine AllReady.cons rfl (fun K hK => ?_) ?_
                · go_simp
                  refine hK _ _ ?_; clear hK K
                  refine wpAny_done (by kernel_rfl) ?_ _
                  (go_wp2_with fail; rw [HOK.out]; exact bodyPost_ret (v := .tuple #[v3, .bool ok]) (by simp [results, Try.results38, go_sem]) rfl ⟨_, rfl, ⟨fun _ => HS.out, fun _ => HAD.out⟩, HB3.out⟩)
                exact AllReady.nil
              exact AllReady.nil
            exact AllReady.nil
          exact AllReady.nil
        exact AllReady.nil
      exact AllReady.nil
    refine AllReady.cons rfl (fun K hK => ?_) ?_
    · go_simp
      refine hK _ _ ?_; clear hK K
      refine wpAny_ready (rs := [1, 9]) (by kernel_rfl) (by simp) ?_
      refine AllReady.cons rfl (fun K hK => ?_) ?_
      · go_simp
        refine hK _ _ ?_; clear hK K
        refine wpAny_take (i := 2) (v := ?_) rfl (by kernel_rfl) (by kernel_rfl) (by kernel_rfl) (fun _ _ _ h => h) (Or.inl ⟨by rfl, ?_⟩) ?_
        rotate_left 1
        · intro w; go_simp; try with_reducible rfl
        refine wpAny_take (i := 3) (v := ?_) rfl (by kernel_rfl) (by kernel_rfl) (by kernel_rfl) (fun _ _ _ h => h) (Or.inl ⟨by rfl, ?_⟩) ?_
        rotate_left 1
        · intro w; go_simp; try with_reducible rfl
        refine wpAny_ready (rs := [4, 9]) (by kernel_rfl) (by simp) ?_
        refine AllReady.cons rfl (fun K hK => ?_) ?_
        · go_simp
          go_wp2_with (go_at_call 47; refine CD.out.mono ?_; rintro e w2 ⟨v, rfl, hv, hb⟩; have HO2 := Lib.hid hv; have hl12 : W1.heap.size ≤ w2.heap.size := hb.size; have hbz := (hb.block _ (show w.heap.size < W1.drew.heap.size from hl1)).trans HZ.out; have s22 : w2.cell? ⟨w.heap.size, 2, none⟩ = some (.string p.s) := cell_block hbz 2; have hl2 : w.heap.size < w2.heap.size := lt_block hbz; have HZ2 := Lib.hid hbz; have HB2 := Lib.hid (HB.out.drew.trans (hb.mono HB.out.size)); clear hv hb hbz)
          refine wpAny_ready (rs := [7, 9]) (by kernel_rfl) (by simp) ?_
          refine AllReady.cons rfl (fun K hK => ?_) ?_
          · refine step_append_s rfl (.tmp 57) (.tmp 59) rfl W1.heap.size (numB p.s.size 2) _ rfl HO2.out p.s rfl (by rw [HN2.out]; omega) hl12 (numB p.s.size 2 ++ tb p.s) rfl ?_
            intro v3 w3 hown hb3
            have HS := Lib.hid hown.src
            have HAD := Lib.hid (own_addr hown (fun e => numB_ne p.s.size 2 (by omega) (List.append_eq_nil_iff.1 e).1))
            have HB3 := Lib.hid (HB2.out.trans (hb3.mono (Nat.le_of_lt hl1)))
            have hz3 := (hb3.block _ hl1).trans HZ2.out
            have s23 : w3.cell? ⟨w.heap.size, 2, none⟩ = some (.string p.s) := cell_block hz3 2
            have hl3 : w.heap.size < w3.heap.size := lt_block hz3
            clear hown hb3 hz3
            refine hK _ _ ?_; clear hK K
            refine wpAny_take (i := 12) (v := ?_) rfl (by kernel_rfl) (by kernel_rfl) (by kernel_rfl) (fun _ _ _ h => h) (Or.inl ⟨by rfl, ?_⟩) ?_
            rotate_left 1
            · intro w; go_simp; try with_reducible rfl
            refine wpAny_ready (rs := [9]) (by kernel_rfl) (by simp) ?_
            refine AllReady.cons rfl (fun K hK => ?_) ?_
            · go_simp
              refine hK _ _ ?_; clear hK K
              refine wpAny_ready (rs := [10]) (by kernel_rfl) (by simp) ?_
              refine AllReady.cons rfl (fun K hK => ?_) ?_
              · go_simp
                refine hK _ _ ?_; clear hK K
                refine wpAny_ready (rs := [11]) (by kernel_rfl) (by simp) ?_
                refine AllReady.cons rfl (fun K hK => ?_) ?_
                · go_simp
                  refine hK _ _ ?_; clear hK K
                  refine wpAny_ready (rs := [13]) (by kernel_rfl) (by simp) ?_
                  refine AllReady.cons rfl (fun K hK => ?_) ?_
                  · go_simp
                    refine hK _ _ ?_; clear hK K
                    refine wpAny_done (by kernel_rfl) ?_ _
                    (go_wp2_with fail; rw [HOK.out]; exact bodyPost_ret (v := .tuple #[v3, .bool ok]) (by simp [results, Try.results38, go_sem]) rfl ⟨_, rfl, ⟨fun _ => HS.out, fun _ => HAD.out⟩, HB3.out⟩)
                  exact AllReady.nil
                exact AllReady.nil
              exact AllReady.nil
            exact AllReady.nil
          refine AllReady.cons rfl (fun K hK => ?_) ?_
          · go_simp
            refine hK _ _ ?_; clear hK K
            refine wpAny_take (i := 10) (v := ?_) rfl (by kernel_rfl) (by kernel_rfl) (by kernel_rfl) (fun _ _ _ h => h) (Or.inl ⟨by rfl, ?_⟩) ?_
            rotate_left 1
            · intro w; go_simp; try with_reducible rfl
            refine wpAny_take (i := 11) (v := ?_) rfl (by kernel_rfl) (by kernel_rfl) (by kernel_rfl) (fun _ _ _ h => h) (Or.inl ⟨by rfl, ?_⟩) ?_
            rotate_left 1
            · intro w; go_simp; try with_reducible rfl
            refine wpAny_ready (rs := [7]) (by kernel_rfl) (by simp) ?_
            refine AllReady.cons rfl (fun K hK => ?_) ?_
            · refine step_append_s rfl (.tmp 57) (.tmp 59) rfl W1.heap.size (numB p.s.size 2) _ rfl HO2.out p.s rfl (by rw [HN2.out]; omega) hl12 (numB p.s.size 2 ++ tb p.s) rfl ?_
              intro v3 w3 hown hb3
              have HS := Lib.hid hown.src
              have HAD := Lib.hid (own_addr hown (fun e => numB_ne p.s.size 2 (by omega) (List.append_eq_nil_iff.1 e).1))
              have HB3 := Lib.hid (HB2.out.trans (hb3.mono (Nat.le_of_lt hl1)))
              have hz3 := (hb3.block _ hl1).trans HZ2.out
              have s23 : w3.cell? ⟨w.heap.size, 2, none⟩ = some (.string p.s) := cell_block hz3 2
              have hl3 : w.heap.size < w3.heap.size := lt_block hz3
              clear hown hb3 hz3
              refine hK _ _ ?_; clear hK K
              refine wpAny_ready (rs := [12]) (by kernel_rfl) (by simp) ?_
              refine AllReady.cons rfl (fun K hK => ?_) ?_
              · go_simp
                refine hK _ _ ?_; clear hK K
                refine wpAny_ready (rs := [13]) (by kernel_rfl) (by simp) ?_
                refine AllReady.cons rfl (fun K hK => ?_) ?_
                · go_simp
                  refine hK _ _ ?_; clear hK K
                  refine wpAny_done (by kernel_rfl) ?_ _
                  (go_wp2_with fail; rw [HOK.out]; exact bodyPost_ret (v := .tuple #[v3, .bool ok]) (by simp [results, Try.results38, go_sem]) rfl ⟨_, rfl, ⟨fun _ => HS.out, fun _ => HAD.out⟩, HB3.out⟩)
                exact AllReady.nil
              exact AllReady.nil
            exact AllReady.nil
          exact AllReady.nil
        refine AllReady.cons rfl (fun K hK => ?_) ?_
        · go_simp
          refine hK _ _ ?_; clear hK K
          refine wpAny_take (i := 10) (v := ?_) rfl (by kernel_rfl) (by kernel_rfl) (by kernel_rfl) (fun _ _ _ h => h) (Or.inl ⟨by rfl, ?_⟩) ?_
          rotate_left 1
          · intro w; go_simp; try with_reducible rfl
          refine wpAny_take (i := 11) (v := ?_) rfl (by kernel_rfl) (by kernel_rfl) (by kernel_rfl) (fun _ _ _ h => h) (Or.inl ⟨by rfl, ?_⟩) ?_
          rotate_left 1
          · intro w; go_simp; try with_reducible rfl
          refine wpAny_ready (rs := [4]) (by kernel_rfl) (by simp) ?_
          refine AllReady.cons rfl (fun K hK => ?_) ?_
          · go_simp
            go_wp2_with (go_at_call 47; refine CD.out.mono ?_; rintro e w2 ⟨v, rfl, hv, hb⟩; have HO2 := Lib.hid hv; have hl12 : W1.heap.size ≤ w2.heap.size := hb.size; have hbz := (hb.block _ (show w.heap.size < W1.drew.heap.size from hl1)).trans HZ.out; have s22 : w2.cell? ⟨w.heap.size, 2, none⟩ = some (.string p.s) := cell_block hbz 2; have hl2 : w.heap.size < w2.heap.size := lt_block hbz; have HZ2 := Lib.hid hbz; have HB2 := Lib.hid (HB.out.drew.trans (hb.mono HB.out.size)); clear hv hb hbz)
            refine wpAny_ready (rs := [7]) (by kernel_rfl) (by simp) ?_
            refine AllReady.cons rfl (fun K hK => ?_) ?_
            · refine step_append_s rfl (.tmp 57) (.tmp 59) rfl W1.heap.size (numB p.s.size 2) _ rfl HO2.out p.s rfl (by rw [HN2.out]; omega) hl12 (numB p.s.size 2 ++ tb p.s) rfl ?_
              intro v3 w3 hown hb3
              have HS := Lib.hid hown.src
              have HAD := Lib.hid (own_addr hown (fun e => numB_ne p.s.size 2 (by omega) (List.append_eq_nil_iff.1 e).1))
              have HB3 := Lib.hid (HB2.out.trans (hb3.mono (Nat.le_of_lt hl1)))
              have hz3 := (hb3.block _ hl1).trans HZ2.out
              have s23 : w3.cell? ⟨w.heap.size, 2, none⟩ = some (.string p.s) := cell_block hz3 2
              have hl3 : w.heap.size < w3.heap.size := lt_block hz3
              clear hown hb3 hz3
              refine hK _ _ ?_; clear hK K
              refine wpAny_ready (rs := [12]) (by kernel_rfl) (by simp) ?_
              refine AllReady.cons rfl (fun K hK => ?_) ?_
              · go_simp
                refine hK _ _ ?_; clear hK K
                refine wpAny_ready (rs := [13]) (by kernel_rfl) (by simp) ?_
                refine AllReady.cons rfl (fun K hK => ?_) ?_
                · go_simp
                  refine hK _ _ ?_; clear hK K
                  refine wpAny_done (by kernel_rfl) ?_ _
                  (go_wp2_with fail; rw [HOK.out]; exact bodyPost_ret (v := .tuple #[v3, .bool ok]) (by simp [results, Try.results38, go_sem]) rfl ⟨_, rfl, ⟨fun _ => HS.out, fun _ => HAD.out⟩, HB3.out⟩)
                exact AllReady.nil
              exact AllReady.nil
            exact AllReady.nil
          exact AllReady.nil
        exact AllReady.nil
      refine AllReady.cons rfl (fun K hK => ?_) ?_
      · go_simp
        refine hK _ _ ?_; clear hK K
        refine wpAny_take (i := 10) (v := ?_) rfl (by kernel_rfl) (by kernel_rfl) (by kernel_rfl) (fun _ _ _ h => h) (Or.inl ⟨by rfl, ?_⟩) ?_
        rotate_left 1
        · intro w; go_simp; try with_reducible rfl
        refine wpAny_take (i := 11) (v := ?_) rfl (by kernel_rfl) (by kernel_rfl) (by kernel_rfl) (fun _ _ _ h => h) (Or.inl ⟨by rfl, ?_⟩) ?_
        rotate_left 1
        · intro w; go_simp; try with_reducible rfl
        refine wpAny_ready (rs := [1]) (by kernel_rfl) (by simp) ?_
        refine AllReady.cons rfl (fun K hK => ?_) ?_
        · go_simp
          refine hK _ _ ?_; clear hK K
          refine wpAny_ready (rs := [2]) (by kernel_rfl) (by simp) ?_
          refine AllReady.cons rfl (fun K hK => ?_) ?_
          · go_simp
            refine hK _ _ ?_; clear hK K
            refine wpAny_ready (rs := [3]) (by kernel_rfl) (by simp) ?_
            refine AllReady.cons rfl (fun K hK => ?_) ?_
            · go_simp
              refine hK _ _ ?_; clear hK K
              refine wpAny_ready (rs := [4]) (by kernel_rfl) (by simp) ?_
              refine AllReady.cons rfl (fun K hK => ?_) ?_
              · go_simp
                go_wp2_with (go_at_call 47; refine CD.out.mono ?_; rintro e w2 ⟨v, rfl, hv, hb⟩; have HO2 := Lib.hid hv; have hl12 : W1.heap.size ≤ w2.heap.size := hb.size; have hbz := (hb.block _ (show w.heap.size < W1.drew.heap.size from hl1)).trans HZ.out; have s22 : w2.cell? ⟨w.heap.size, 2, none⟩ = some (.string p.s) := cell_block hbz 2; have hl2 : w.heap.size < w2.heap.size := lt_block hbz; have HZ2 := Lib.hid hbz; have HB2 := Lib.hid (HB.out.drew.trans (hb.mono HB.out.size)); clear hv hb hbz)
                refine wpAny_ready (rs := [7]) (by kernel_rfl) (by simp) ?_
                refine AllReady.cons rfl (fun K hK => ?_) ?_
                · refine step_append_s rfl (.tmp 57) (.tmp 59) rfl W1.heap.size (numB p.s.size 2) _ rfl HO2.out p.s rfl (by rw [HN2.out]; omega) hl12 (numB p.s.size 2 ++ tb p.s) rfl ?_
                  intro v3 w3 hown hb3
                  have HS := Lib.hid hown.src
                  have HAD := Lib.hid (own_addr hown (fun e => numB_ne p.s.size 2 (by omega) (List.append_eq_nil_iff.1 e).1))
                  have HB3 := Lib.hid (HB2.out.trans (hb3.mono (Nat.le_of_lt hl1)))
                  have hz3 := (hb3.block _ hl1).trans HZ2.out
                  have s23 : w3.cell? ⟨w.heap.size, 2, none⟩ = some (.string p.s) := cell_block hz3 2
                  have hl3 : w.heap.size < w3.heap.size := lt_block hz3
                  clear hown hb3 hz3
                  refine hK _ _ ?_; clear hK K
                  refine wpAny_ready (rs := [12]) (by kernel_rfl) (by simp) ?_
                  refine AllReady.cons rfl (fun K hK => ?_) ?_
                  · go_simp
                    refine hK _ _ ?_; clear hK K
                    refine wpAny_ready (rs := [13]) (by kernel_rfl) (by simp) ?_
                    refine AllReady.cons rfl (fun K hK => ?_) ?_
                    · go_simp
                      refine hK _ _ ?_; clear hK K
                      refine wpAny_done (by kernel_rfl) ?_ _
                      (go_wp2_with fail; rw [HOK.out]; exact bodyPost_ret (v := .tuple #[v3, .bool ok]) (by simp [results, Try.results38, go_sem]) rfl ⟨_, rfl, ⟨fun _ => HS.out, fun _ => HAD.out⟩, HB3.out⟩)
                    exact AllReady.nil
                  exact AllReady.nil
                exact AllReady.nil
              exact AllReady.nil
            exact AllReady.nil
          exact AllReady.nil
        exact AllReady.nil
      exact AllReady.nil
    refine AllReady.cons rfl (fun K hK => ?_) ?_
    · go_simp
      refine hK _ _ ?_; clear hK K
      refine wpAny_take (i := 10) (v := ?_) rfl (by kernel_rfl) (by kernel_rfl) (by kernel_rfl) (fun _ _ _ h => h) (Or.inl ⟨by rfl, ?_⟩) ?_
      rotate_left 1
      · intro w; go_simp; try with_reducible rfl
      refine wpAny_take (i := 11) (v := ?_) rfl (by kernel_rfl) (by kernel_rfl) (by kernel_rfl) (fun _ _ _ h => h) (Or.inl ⟨by rfl, ?_⟩) ?_
      rotate_left 1
      · intro w; go_simp; try with_reducible rfl
      refine wpAny_ready (rs := [1, 6]) (by kernel_rfl) (by simp) ?_
      refine AllReady.cons rfl (fun K hK => ?_) ?_
      · go_simp
        refine hK _ _ ?_; clear hK K
        refine wpAny_take (i := 2) (v := ?_) rfl (by kernel_rfl) (by kernel_rfl) (by kernel_rfl) (fun _ _ _ h => h) (Or.inl ⟨by rfl, ?_⟩) ?_
        rotate_left 1
        · intro w; go_simp; try with_reducible rfl
        refine wpAny_take (i := 3) (v := ?_) rfl (by kernel_rfl) (by kernel_rfl) (by kernel_rfl) (fun _ _ _ h => h) (Or.inl ⟨by rfl, ?_⟩) ?_
        rotate_left 1
        · intro w; go_simp; try with_reducible rfl
        refine wpAny_ready (rs := [4, 6]) (by kernel_rfl) (by simp) ?_
        refine AllReady.cons rfl (fun K hK => ?_) ?_
        · go_simp
          go_wp2_with (go_at_call 47; refine CD.out.mono ?_; rintro e w2 ⟨v, rfl, hv, hb⟩; have HO2 := Lib.hid hv; have hl12 : W1.heap.size ≤ w2.heap.size := hb.size; have hbz := (hb.block _ (show w.heap.size < W1.drew.heap.size from hl1)).trans HZ.out; have s22 : w2.cell? ⟨w.heap.size, 2, none⟩ = some (.string p.s) := cell_block hbz 2; have hl2 : w.heap.size < w2.heap.size := lt_block hbz; have HZ2 := Lib.hid hbz; have HB2 := Lib.hid (HB.out.drew.trans (hb.mono HB.out.size)); clear hv hb hbz)
          refine wpAny_ready (rs := [6]) (by kernel_rfl) (by simp) ?_
          refine AllReady.cons rfl (fun K hK => ?_) ?_
          · go_simp
            refine hK _ _ ?_; clear hK K
            refine wpAny_ready (rs := [7]) (by kernel_rfl) (by simp) ?_
            refine AllReady.cons rfl (fun K hK => ?_) ?_
            · refine step_append_s rfl (.tmp 57) (.tmp 59) rfl W1.heap.size (numB p.s.size 2) _ rfl HO2.out p.s rfl (by rw [HN2.out]; omega) hl12 (numB p.s.size 2 ++ tb p.s) rfl ?_
              intro v3 w3 hown hb3
              have HS := Lib.hid hown.src
              have HAD := Lib.hid (own_addr hown (fun e => numB_ne p.s.size 2 (by omega) (List.append_eq_nil_iff.1 e).1))
              have HB3 := Lib.hid (HB2.out.trans (hb3.mono (Nat.le_of_lt hl1)))
              have hz3 := (hb3.block _ hl1).trans HZ2.out
              have s23 : w3.cell? ⟨w.heap.size, 2, none⟩ = some (.string p.s) := cell_block hz3 2
              have hl3 : w.heap.size < w3.heap.size := lt_block hz3
              clear hown hb3 hz3
              refine hK _ _ ?_; clear hK K
              refine wpAny_ready (rs := [12]) (by kernel_rfl) (by simp) ?_
              refine AllReady.cons rfl (fun K hK => ?_) ?_
              · go_simp
                refine hK _ _ ?_; clear hK K
                refine wpAny_ready (rs := [13]) (by kernel_rfl) (by simp) ?_
                refine AllReady.cons rfl (fun K hK => ?_) ?_
                · go_simp
                  refine hK _ _ ?_; clear hK K
                  refine wpAny_done (by kernel_rfl) ?_ _
                  (go_wp2_with fail; rw [HOK.out]; exact bodyPost_ret (v := .tuple #[v3, .bool ok]) (by simp [results, Try.results38, go_sem]) rfl ⟨_, rfl, ⟨fun _ => HS.out, fun _ => HAD.out⟩, HB3.out⟩)
                exact AllReady.nil
              exact AllReady.nil
            exact AllReady.nil
          exact AllReady.nil
        refine AllReady.cons rfl (fun K hK => ?_) ?_
        · go_simp
          refine hK _ _ ?_; clear hK K
          refine wpAny_ready (rs := [4]) (by kernel_rfl) (by simp) ?_
          refine AllReady.cons rfl (fun K hK => ?_) ?_
          · go_simp
            go_wp2_with (go_at_call 47; refine CD.out.mono ?_; rintro e w2 ⟨v, rfl, hv, hb⟩; have HO2 := Lib.hid hv; have hl12 : W1.heap.size ≤ w2.heap.size := hb.size; have hbz := (hb.block _ (show w.heap.size < W1.drew.heap.size from hl1)).trans HZ.out; have s22 : w2.cell? ⟨w.heap.size, 2, none⟩ = some (.string p.s) := cell_block hbz 2; have hl2 : w.heap.size < w2.heap.size := lt_block hbz; have HZ2 := Lib.hid hbz; have HB2 := Lib.hid (HB.out.drew.trans (hb.mono HB.out.size)); clear hv hb hbz)
            refine wpAny_ready (rs := [7]) (by kernel_rfl) (by simp) ?_
            refine AllReady.cons rfl (fun K hK => ?_) ?_
            · refine step_append_s rfl (.tmp 57) (.tmp 59) rfl W1.heap.size (numB p.s.size 2) _ rfl HO2.out p.s rfl (by rw [HN2.out]; omega) hl12 (numB p.s.size 2 ++ tb p.s) rfl ?_
              intro v3 w3 hown hb3
              have HS := Lib.hid hown.src
              have HAD := Lib.hid (own_addr hown (fun e => numB_ne p.s.size 2 (by omega) (List.append_eq_nil_iff.1 e).1))
              have HB3 := Lib.hid (HB2.out.trans (hb3.mono (Nat.le_of_lt hl1)))
              have hz3 := (hb3.block _ hl1).trans HZ2.out
              have s23 : w3.cell? ⟨w.heap.size, 2, none⟩ = some (.string p.s) := cell_block hz3 2
              have hl3 : w.heap.size < w3.heap.size := lt_block hz3
              clear hown hb3 hz3
              refine hK _ _ ?_; clear hK K
              refine wpAny_ready (rs := [12]) (by kernel_rfl) (by simp) ?_
              refine AllReady.cons rfl (fun K hK => ?_) ?_
              · go_simp
                refine hK _ _ ?_; clear hK K
                refine wpAny_ready (rs := [13]) (by kernel_rfl) (by simp) ?_
                refine AllReady.cons rfl (fun K hK => ?_) ?_
                · go_simp
                  refine hK _ _ ?_; clear hK K
                  refine wpAny_done (by kernel_rfl) ?_ _
                  (go_wp2_with fail; rw [HOK.out]; exact bodyPost_ret (v := .tuple #[v3, .bool ok]) (by simp [results, Try.results38, go_sem]) rfl ⟨_, rfl, ⟨fun _ => HS.out, fun _ => HAD.out⟩, HB3.out⟩)
                exact AllReady.nil
              exact AllReady.nil
            exact AllReady.nil
          exact AllReady.nil
        exact AllReady.nil
      refine AllReady.cons rfl (fun K hK => ?_) ?_
      · go_simp
        refine hK _ _ ?_; clear hK K
        refine wpAny_ready (rs := [1]) (by kernel_rfl) (by simp) ?_
        refine AllReady.cons rfl (fun K hK => ?_) ?_
        · go_simp
          refine hK _ _ ?_; clear hK K
          refine wpAny_ready (rs := [2]) (by kernel_rfl) (by simp) ?_
          refine AllReady.cons rfl (fun K hK => ?_) ?_
          · go_simp
            refine hK _ _ ?_; clear hK K
            refine wpAny_ready (rs := [3]) (by kernel_rfl) (by simp) ?_
            refine AllReady.cons rfl (fun K hK => ?_) ?_
            · go_simp
              refine hK _ _ ?_; clear hK K
              refine wpAny_ready (rs := [4]) (by kernel_rfl) (by simp) ?_
              refine AllReady.cons rfl (fun K hK => ?_) ?_
              · go_simp
                go_wp2_with (go_at_call 47; refine CD.out.mono ?_; rintro e w2 ⟨v, rfl, hv, hb⟩; have HO2 := Lib.hid hv; have hl12 : W1.heap.size ≤ w2.heap.size := hb.size; have hbz := (hb.block _ (show w.heap.size < W1.drew.heap.size from hl1)).trans HZ.out; have s22 : w2.cell? ⟨w.heap.size, 2, none⟩ = some (.string p.s) := cell_block hbz 2; have hl2 : w.heap.size < w2.heap.size := lt_block hbz; have HZ2 := Lib.hid hbz; have HB2 := Lib.hid (HB.out.drew.trans (hb.mono HB.out.size)); clear hv hb hbz)
                refine wpAny_ready (rs := [7]) (by kernel_rfl) (by simp) ?_
                refine AllReady.cons rfl (fun K hK => ?_) ?_
                · refine step_append_s rfl (.tmp 57) (.tmp 59) rfl W1.heap.size (numB p.s.size 2) _ rfl HO2.out p.s rfl (by rw [HN2.out]; omega) hl12 (numB p.s.size 2 ++ tb p.s) rfl ?_
                  intro v3 w3 hown hb3
                  have HS := Lib.hid hown.src
                  have HAD := Lib.hid (own_addr hown (fun e => numB_ne p.s.size 2 (by omega) (List.append_eq_nil_iff.1 e).1))
                  have HB3 := Lib.hid (HB2.out.trans (hb3.mono (Nat.le_of_lt hl1)))
                  have hz3 := (hb3.block _ hl1).trans HZ2.out
                  have s23 : w3.cell? ⟨w.heap.size, 2, none⟩ = some (.string p.s) := cell_block hz3 2
                  have hl3 : w.heap.size < w3.heap.size := lt_block hz3
                  clear hown hb3 hz3
                  refine hK _ _ ?_; clear hK K
                  refine wpAny_ready (rs := [12]) (by kernel_rfl) (by simp) ?_
                  refine AllReady.cons rfl (fun K hK => ?_) ?_
                  · go_simp
                    refine hK _ _ ?_; clear hK K
                    refine wpAny_ready (rs := [13]) (by kernel_rfl) (by simp) ?_
                    refine AllReady.cons rfl (fun K hK => ?_) ?_
                    · go_simp
                      refine hK _ _ ?_; clear hK K
                      refine wpAny_done (by kernel_rfl) ?_ _
                      (go_wp2_with fail; rw [HOK.out]; exact bodyPost_ret (v := .tuple #[v3, .bool ok]) (by simp [results, Try.results38, go_sem]) rfl ⟨_, rfl, ⟨fun _ => HS.out, fun _ => HAD.out⟩, HB3.out⟩)
                    exact AllReady.nil
                  exact AllReady.nil
                exact AllReady.nil
              exact AllReady.nil
            exact AllReady.nil
          exact AllReady.nil
        exact AllReady.nil
      exact AllReady.nil
    exact AllReady.nil
  · have eo : bytesOk p lx = true := EO.out
    have eb : bytesB p lx = tb p.s := EB.out
    rw [eo, eb]
    obtain ⟨v, w3, hcv, hsrc, hb, had⟩ := conv_string_at W1 p.s
    have HS := Lib.hid hsrc
    have HAD := Lib.hid had
    have HB2 := Lib.hid (HB.out.trans (hb.mono HB.out.size))
    rw [← HW1.out] at hcv
    clear hsrc hb had EO EB eo eb
    go_wp2_with fail
    refine bodyPost_ret (v := .tuple #[v, .bool true]) (by simp [results, Try.results38, go_sem]) rfl ?_
    exact ⟨_, rfl, ⟨fun _ => HS.out, fun _ => HAD.out⟩, HB2.out⟩
  · have eo : bytesOk p lx = p.v.formed lx := EO.out
    have eb : bytesB p lx = valB p.v lx := EB.out
    have F := Lib.hid (refFormed_any W1 p.v lx (HP.out.full.below HB.out))
    have R := Lib.hid (fun W (hW : Below w.heap.size w W) hf => refValue_any W p.v lx (HP.out.full.below hW) hf HP.out.i HP.out.il)
    rw [eo, eb]
    obtain ⟨f, hf⟩ : ∃ f, p.v.formed lx = f := ⟨_, rfl⟩
    rw [hf] at F R ⊢
    unfold Val.v V at F
    clear EO EB eo eb hf
    go_wp2_with fail
    rw [HW1.out]
    refine F.out.mono ?_
    rintro e w2 ⟨rfl, hb⟩
    have HZ2 := Lib.hid ((hb.block _ (lt_block HZ.out)).trans HZ.out)
    have HB2 := Lib.hid (HB.out.trans (hb.mono HB.out.size))
    have c3 : w2.cell? ⟨w.heap.size, 3, none⟩ = some (.int .i64 p.v.k) := cell_block HZ2.out 3
    have c4 : w2.cell? ⟨w.heap.size, 4, none⟩ = some (.int .i64 p.v.i) := cell_block HZ2.out 4
    have c5 : w2.cell? ⟨w.heap.size, 5, none⟩ = some (.string p.v.s) := cell_block HZ2.out 5
    have c6 : w2.cell? ⟨w.heap.size, 6, none⟩ = some (.slice p.v.a p.v.n p.v.c) := cell_block HZ2.out 6
    have hl2 : w.heap.size < w2.heap.size := lt_block HZ2.out
    clear hb F
    cases f
    · go_wp2_with fail
      refine bodyPost_ret (v := .tuple #[.slice none 0 0, .bool false]) (by simp [results, Try.results38, go_sem]) rfl ?_
      exact ⟨_, rfl, ⟨fun h => (by cases h), fun h => (by cases h)⟩, HB2.out⟩
    · have RR := Lib.hid (R.out w2 HB2.out rfl)
      go_wp2_with fail
      refine RR.out.mono ?_
      rintro e w3 ⟨v, rfl, hv, hb⟩
      have HS := Lib.hid hv.src
      have HAD := Lib.hid (own_addr hv (valB_ne _ _))
      have HB3 := Lib.hid (HB2.out.trans (hb.mono HB2.out.size))
      clear hv hb R RR c3 c4 c5 c6
      go_wp2_with fail
      refine bodyPost_ret (v := .tuple #[v, .bool true]) (by simp [results, Try.results38, go_sem]) rfl ?_
      exact ⟨_, rfl, ⟨fun _ => HS.out, fun _ => HAD.out⟩, HB3.out⟩
end Go.Proofs.Ytebadbnlihbecaa
