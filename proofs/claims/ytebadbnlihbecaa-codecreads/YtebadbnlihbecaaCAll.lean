/- The reference's bytes of parts, one behind the other. -/
import Derived.Test.YtebadbnlihbecaaCBytes
namespace Go.Proofs.Ytebadbnlihbecaa
open Go.RowKit

theorem append_b1 {w : World} {ops : Array Oper} {rest : List Oper} {o : Oper} {a : Act} {Q : Exit → Act → World → Prop} (hgd : o.guard = none) (s x : Operand)
    (ho : o.op = .call { callee := .builtin .append, args := #[s, x], argTypes := #[36, 36] })
    (base : Nat) (h l : List UInt8) (v : Value) (hs : a.eval s = v) (hown' : OwnB w base v h) (u : Value) (hx : a.eval x = u) (hsrc : BSrc w u l) (had : ∃ a n cp, u = .slice (some a) n cp) (hlen : h.length + l.length ≤ 100000) (hbase : base ≤ w.heap.size) (r : List UInt8) (hr : r = h ++ l)
    (k : ∀ v' w', OwnB w' base v' r → Below base w w' → wpList Try.prog ops Q rest (a.put o.dst v') w') : wpList Try.prog ops Q (o :: rest) a w := by
  by_cases hne : l = []
  · subst hne
    obtain ⟨i, hi, hz, hsz, hby⟩ := info_parts (show (Try.prog.info? 5).map (fun i => (i.zero, i.size, i.bytes)) = some (some (.int .u8 0), 1, 1) by kernel_rfl)
    subst hr
    have hown := hown'.row
    obtain ⟨q, n, c, rfl⟩ := had
    obtain ⟨ad, cp, e⟩ := hsrc.shape
    injection e with e1 e2 e3
    have e2' : n = 0 := e2
    subst e2'
    refine wpList_append_own_wide w hgd s x 36 ho base 5 i _ 1 1 Try.underlying36 hi hz hsz hby rfl (by omega) v h.length (h.map B) hs hown q 0 c [] hx (by simp) (fun j u hj => by simp at hj) (fun u hu => by cases hu) (by unfold maxLen; simp at hlen; omega) (by simp at hlen; omega) hbase ?_
    intro v' w' hown'' hgr _
    exact k v' w' ⟨by simpa using hown''⟩ ((Below.refl base w).grown hgr hbase (fun b hb => (hown.lt b hb).1))
  · exact append_b hgd s x ho base h l v hs hown' u hx hsrc hne hlen hbase r hr k
/-- the bytes of parts, or none -/
def allStep (acc : Option (List UInt8)) (p : PartV × List Val) : Option (List UInt8) :=
  match acc with
  | none => none
  | some u => if bytesOk p.1 p.2 = true then (if u.length + (bytesB p.1 p.2).length ≤ 4096 then some (u ++ bytesB p.1 p.2) else none) else none
def allB (ps : List (PartV × List Val)) : Option (List UInt8) := ps.foldl allStep (some [])
theorem all_none (ps : List (PartV × List Val)) : ps.foldl allStep none = none := by
  induction ps with
  | nil => rfl
  | cons p ps ih => exact ih
theorem allB_next (ps : List (PartV × List Val)) (k : Nat) (h : k < ps.length) : allB (ps.take (k + 1)) = allStep (allB (ps.take k)) ps[k] := by
  unfold allB
  rw [List.take_succ_eq_append_getElem h, List.foldl_append]
  rfl
theorem allB_stop (ps : List (PartV × List Val)) (k : Nat) (h : allB (ps.take k) = none) : allB ps = none := by
  unfold allB at h ⊢
  rw [← List.take_append_drop k ps, List.foldl_append, h]
  exact all_none _
theorem allB_most (ps : List (PartV × List Val)) : ∀ u, allB ps = some u → u.length ≤ 4096 := by
  have key : ∀ (ps : List (PartV × List Val)) (acc : Option (List UInt8)), (∀ u, acc = some u → u.length ≤ 4096) → ∀ u, ps.foldl allStep acc = some u → u.length ≤ 4096 := by
    intro ps
    induction ps with
    | nil => intro acc h u hu; exact h u hu
    | cons p ps ih =>
      intro acc h u hu
      refine ih (allStep acc p) ?_ u hu
      intro v hv
      unfold allStep at hv
      split at hv
      · cases hv
      · split at hv
        · split at hv
          · rename_i hle
            injection hv with hv
            rw [← hv, List.length_append]
            exact hle
          · cases hv
        · cases hv
  exact key ps _ fun u hu => by injection hu with hu; rw [← hu]; simp
theorem bytesB_most {w : World} {p : PartV} {lx : List Val} (h : PartOk w p lx) (hok : bytesOk p lx = true) : (bytesB p lx).length ≤ 6000 := by
  have hs := h.s
  unfold bytesOk at hok
  unfold bytesB
  by_cases h0 : p.q % 8 = 0
  · rw [if_pos h0, numB_length]; omega
  by_cases h1 : p.q % 8 = 1
  · rw [if_neg h0, if_pos h1, numB_length]; omega
  by_cases h2 : p.q % 8 = 2
  · rw [if_neg h0, if_neg h1, if_pos h2, numB_length]; omega
  by_cases h3 : p.q % 8 = 3
  · rw [if_neg h0, if_neg h1, if_neg h2, if_pos h3, numB_length]; omega
  by_cases h4 : p.q % 8 = 4
  · rw [if_neg h0, if_neg h1, if_neg h2, if_neg h3, if_pos h4, numB_length]; omega
  by_cases h5 : p.q % 8 = 5
  · rw [if_neg h0, if_neg h1, if_neg h2, if_neg h3, if_neg h4, if_pos h5, List.length_append, numB_length, tb_size]; omega
  by_cases h6 : p.q % 8 = 6
  · rw [if_neg h0, if_neg h1, if_neg h2, if_neg h3, if_neg h4, if_neg h5, if_pos h6, tb_size]; omega
  rw [if_neg h0, if_neg h1, if_neg h2, if_neg h3, if_neg h4, if_neg h5, if_neg h6] at hok ⊢
  have := valB_most hok
  omega
/-- what the loop over the parts keeps -/
structure AllRel (w : World) (ps : List (PartV × List Val)) (k : Nat) (v : Value) (u : List UInt8) (wr : World) : Prop where
  own : OwnB wr w.heap.size v u
  is : allB (ps.take k) = some u
  below : Below w.heap.size w wr
/-- what All hands back -/
structure AllIs (acc : Option (List UInt8)) (w : World) (v : Value) : Prop where
  src : BSrc w v (acc.getD [])

set_option maxRecDepth 100000 in
set_option maxHeartbeats 4000000 in
theorem refAll_any (w : World) (ps : List (PartV × List Val)) (ad : Option Addr) (g o cp : Nat) (hl : PList w ad g o ps) (hm : ps.length ≤ maxLen) (hp : ∀ p ∈ ps, PartOk w p.1 p.2) :
    Calls Try.prog 12 #[.slice ad ps.length cp] w fun e w' => ∃ v, e = .returned (.tuple #[v, .bool (allB ps).isSome]) ∧ AllIs (allB ps) w' v ∧ Below w.heap.size w w' := by
  have HL := Lib.hid hl
  have HP := Lib.hid hp
  unfold maxLen at hm
  obtain ⟨acc, hacc⟩ : ∃ acc, allB ps = acc := ⟨_, rfl⟩
  rw [hacc]
  have HA := Lib.hid hacc
  clear hl hp hacc
  go_enter Try.func12, Try.ntmps12
  go_wp2_with fail
  go_loopw [4, 5, 6, 7] (fun v i _ _ wr => ∃ k : Nat, k ≤ ps.length ∧ i = .int .i64 k ∧ ∃ u, Hid (AllRel w ps k v u wr)) (fun _ i _ _ _ => ps.length - (intOf i).toNat)
  case atStart => exact ⟨0, by omega, rfl, [], Lib.hid ⟨⟨World.ownsRow_nil _ _ _ _⟩, rfl, Below.refl _ _⟩⟩
  case round =>
    obtain ⟨k, hk, rfl, u, HR⟩ := hrel
    by_cases hlt : k < ps.length
    · have hne : ps ≠ [] := by intro e; subst e; simp at hlt
      have hLr := HL.out.below HR.out.below
      have had := hLr.at' hne
      have c0 := hLr.c0 k hlt
      have c1 := hLr.c1 k hlt
      have c2 := hLr.c2 k hlt
      have c3 := hLr.c3 k hlt
      have c4 := hLr.c4 k hlt
      have c5 := hLr.c5 k hlt
      have c6 := hLr.c6 k hlt
      have HST := Lib.hid (allB_next ps k hlt)
      have hpo := HP.out _ (List.getElem_mem hlt)
      obtain ⟨⟨p, lx⟩, hpk⟩ : ∃ q, ps[k] = q := ⟨_, rfl⟩
      rw [hpk] at c0 c1 c2 c3 c4 c5 c6 HST hpo
      dsimp only at c0 c1 c2 c3 c4 c5 c6 hpo
      have B' := Lib.hid (refBytes_any wr p lx ⟨hpo.ok, hpo.s, hpo.full.below HR.out.below, hpo.i, hpo.il⟩)
      obtain ⟨ok, hok⟩ : ∃ ok, bytesOk p lx = ok := ⟨_, rfl⟩
      obtain ⟨b, hbb⟩ : ∃ b, bytesB p lx = b := ⟨_, rfl⟩
      have hbm : bytesOk p lx = true → (bytesB p lx).length ≤ 6000 := bytesB_most hpo
      rw [hok, hbb] at B' hbm
      have HBM := Lib.hid hbm
      clear hbm
      have hst : allStep (some u) (p, lx) = if ok = true then (if u.length + b.length ≤ 4096 then some (u ++ b) else none) else none := by rw [← hok, ← hbb]; rfl
      rw [HR.out.is, hst] at HST
      unfold PartV.val at B'
      have hgw : g < wr.heap.size := block_lt_of_cell c0
      obtain ⟨ua, uc, rfl⟩ := HR.out.own.shape
      have hu := allB_most _ u HR.out.is
      subst had
      clear hne hLr hpk hok hbb hst hpo
      go_wp2_with fail
      refine B'.out.mono ?_
      rintro e w1 ⟨v, rfl, hsi, hb⟩
      have HO1 := Lib.hid (HR.out.own.below hb)
      have HB1 := Lib.hid (HR.out.below.trans (hb.mono HR.out.below.size))
      have hl1 : w.heap.size ≤ w1.heap.size := HB1.out.size
      have HSI := Lib.hid hsi
      clear hsi hb B' c0 c1 c2 c3 c4 c5 c6
      cases ok
      · have hno : acc = none := by rw [← HA.out]; exact allB_stop ps (k + 1) HST.out
        have HNO := Lib.hid hno
        clear hno
        go_wp2_with fail
        refine bodyPost_ret (v := .tuple #[.slice none 0 0, .bool false]) (by simp [results, Try.results12, go_sem]) rfl ?_
        rw [HNO.out]
        exact ⟨_, rfl, ⟨.inl ⟨_, _, rfl, rfl⟩⟩, HB1.out⟩
      · have hs1 := HSI.out.src rfl
        have HAD := Lib.hid (HSI.out.addr rfl)
        have HS1 := Lib.hid hs1
        obtain ⟨va, vc, rfl⟩ := hs1.shape
        clear hs1 HSI
        have hbm := HBM.out rfl
        by_cases hfit : u.length + b.length ≤ 4096
        · have hf' : ¬ (4096 : Int) < (u.length : Int) + b.length := by omega
          have HST' : Hid (allB (ps.take (k + 1)) = some (u ++ b)) := Lib.hid (by rw [HST.out, if_pos rfl, if_pos hfit])
          go_wp2_with (at_builtin; go_loud (refine append_b1 rfl (.tmp 32) (.tmp 33) rfl w.heap.size u b _ rfl HO1.out _ rfl HS1.out HAD.out (by omega) hl1 (u ++ b) rfl ?_))
          intro v5 w5 hown hb5
          have HR5 : Hid (AllRel w ps (k + 1) v5 (u ++ b) w5) := Lib.hid ⟨hown, HST'.out, HB1.out.trans hb5⟩
          clear hown hb5 HO1 HB1 HS1 HAD
          go_wp2_with fail
          go_roundw
          case rel => exact ⟨k + 1, by omega, by go_num, _, HR5⟩
          case measure => simp [intOf]; omega
        · have hf' : (4096 : Int) < (u.length : Int) + b.length := by omega
          have hno : acc = none := by rw [← HA.out]; exact allB_stop ps (k + 1) (by rw [HST.out, if_pos rfl, if_neg hfit])
          have HNO := Lib.hid hno
          clear hno
          go_wp2_with fail
          refine bodyPost_ret (v := .tuple #[.slice none 0 0, .bool false]) (by simp [results, Try.results12, go_sem]) rfl ?_
          rw [HNO.out]
          exact ⟨_, rfl, ⟨.inl ⟨_, _, rfl, rfl⟩⟩, HB1.out⟩
    · obtain rfl : k = ps.length := by omega
      have hyes : acc = some u := by rw [← HA.out, ← HR.out.is, List.take_length]
      have HY := Lib.hid hyes
      clear hyes
      go_wp2_with fail
      refine bodyPost_ret (v := .tuple #[u4, .bool true]) (by simp [results, Try.results12, go_sem]) rfl ?_
      rw [HY.out]
      exact ⟨_, rfl, ⟨HR.out.own.src⟩, HR.out.below⟩
end Go.Proofs.Ytebadbnlihbecaa
