/- A reader's calls: bags. -/
import Derived.Test.YtllgodaphoncnaaGreatDoorJ31
import Derived.Test.YtllgodaphoncnaaGreatDoorSOwn
namespace Go.Proofs.YtllgodaphoncnaaGreatDoor
open Go.RowKit

abbrev zero8 : Obj := .cells #[.string ⟨#[]⟩, .int .i64 0, .int .i64 0, .string ⟨#[]⟩, .slice none 0 0, .string ⟨#[]⟩, .string ⟨#[]⟩, .slice none 0 0] 27 (0, 0)
/-- the result's own block, as it was made -/
structure ResX (I : RI) (w W : World) (p : PS) : Prop where
  rd : Rd I W p
  kept : Kept1 I.b w W
  res : W.heap[w.heap.size]? = some zero8
set_option maxRecDepth 100000 in
theorem ResX.go {I : RI} {w W W' : World} {p q : PS} (h0 : I.b < w.heap.size) (h : ResX I w W p) (hr : Rd I W' q) (hk : Kept1 I.b W W') : ResX I w W' q :=
  ⟨hr, h.kept.trans hk, (hk.block _ (lt_block h.res) (by omega)).trans h.res⟩
set_option maxRecDepth 100000 in
theorem ResX.low {I : RI} {w W W' : World} {p : PS} (h : ResX I w W p) (hb : Below W.heap.size W W') : ResX I w W' p :=
  ⟨h.rd.below hb, h.kept.trans (.of_below hb), (hb.block _ (lt_block h.res)).trans h.res⟩
set_option maxRecDepth 100000 in
theorem resX_new {I : RI} {w : World} {p : PS} (h : Rd I w p) : ResX I w (w.alloc zero8) p := by
  have hb0 : Below w.heap.size w (w.alloc zero8) := (Below.refl _ _).alloc (Nat.le_refl _) _
  exact ⟨h.below hb0, .of_below hb0, heap_alloc_new _ _⟩
set_option maxRecDepth 100000 in
theorem ResX.cells {I : RI} {w W : World} {p : PS} (h : ResX I w W p) :
    W.cell? ⟨w.heap.size, 0, none⟩ = some (.string ⟨#[]⟩) ∧ W.cell? ⟨w.heap.size, 1, none⟩ = some (.int .i64 0) ∧ W.cell? ⟨w.heap.size, 2, none⟩ = some (.int .i64 0) ∧ W.cell? ⟨w.heap.size, 3, none⟩ = some (.string ⟨#[]⟩) ∧ W.cell? ⟨w.heap.size, 4, none⟩ = some (.slice none 0 0) ∧ W.cell? ⟨w.heap.size, 5, none⟩ = some (.string ⟨#[]⟩) ∧ W.cell? ⟨w.heap.size, 6, none⟩ = some (.string ⟨#[]⟩) ∧ W.cell? ⟨w.heap.size, 7, none⟩ = some (.slice none 0 0) ∧ (∀ o, W.frozen? ⟨w.heap.size, o, none⟩ = false) :=
  ⟨cell_block h.res 0, cell_block h.res 1, cell_block h.res 2, cell_block h.res 3, cell_block h.res 4, cell_block h.res 5, cell_block h.res 6, cell_block h.res 7, fun o => by simp [World.frozen?, h.res]⟩
set_option maxRecDepth 100000 in
theorem ResX.over {I : RI} {w W W' : World} {p q : PS} (h0 : Rd I w p) (h : ResX I w W q) (hb : Below (w.heap.size + 1) W W') : ResX I w W' q := by
  have hl := h0.lt
  have hs : w.heap.size < W.heap.size := lt_block h.res
  have hk : Kept1 I.b w W' := ⟨hb.os.trans h.kept.os, hb.tape.trans h.kept.tape, hb.output.trans h.kept.output, by have := hb.size; omega, fun k hk hne => (hb.block k (by omega)).trans (h.kept.block k hk hne)⟩
  exact ⟨h0.kept hk ((hb.block I.b (by omega)).trans h.rd.blk) h.rd.at' h.rd.err, hk, (hb.block _ (by omega)).trans h.res⟩
abbrev set8 (w : World) (g : Nat) (x0 x1 x2 x3 x4 x5 x6 x7 : Value) : World := (((((((w.setCell ⟨g, 0, none⟩ x0).setCell ⟨g, 1, none⟩ x1).setCell ⟨g, 2, none⟩ x2).setCell ⟨g, 3, none⟩ x3).setCell ⟨g, 4, none⟩ x4).setCell ⟨g, 5, none⟩ x5).setCell ⟨g, 6, none⟩ x6).setCell ⟨g, 7, none⟩ x7
abbrev setX (w : World) (g : Nat) (X : XV) : World := set8 w g (.string X.o) (.int .i64 X.x.k) (.int .i64 X.x.i) (.string X.x.s) (.slice X.x.a X.x.n X.x.c) (.string X.w) (.string X.n) (.slice X.a X.l X.c)
set_option maxRecDepth 100000 in
theorem ResX.fin {I : RI} {w W : World} {p q : PS} {t : Tr} {X : XV} (h0 : Rd I w p) (h : ResX I w W q) (ht : TrAt (w.heap.size + 1 ≤ ·) W t X) : PostT I w (t, q) (.returned X.v) (setX W w.heap.size X) :=
  fin8 (N := w.heap.size + 1) h0 ht h.rd h.kept (Nat.le_refl _) (Nat.lt_succ_self _) (kept_set8 _ _ _ _ _ _ _ _ _)
set_option maxRecDepth 100000 in
theorem PostT.low {I : RI} {w W W' : World} {r : Tr × PS} {v : Value} (h : PostT I w r (.returned v) W) (hb : Below W.heap.size W W') : PostT I w r (.returned v) W' := by
  obtain ⟨X, he, ht, hr, hk⟩ := h
  exact ⟨X, he, ht.low hb, hr.below hb, hk.trans (.of_below hb)⟩
set_option maxRecDepth 100000 in
theorem ResX.finA {I : RI} {w W : World} {p q : PS} {t : Tr} {X : XV} (h0 : Rd I w p) (h : ResX I w W q) (ht : TrAt (w.heap.size + 1 ≤ ·) W t X) (o : Obj) :
    PostT I w (t, q) (.returned X.v) ((setX W w.heap.size X).alloc o) ∧
    ((setX W w.heap.size X).alloc o).cell? ⟨w.heap.size, 0, none⟩ = some (.string X.o) ∧ ((setX W w.heap.size X).alloc o).cell? ⟨w.heap.size, 1, none⟩ = some (.int .i64 X.x.k) ∧ ((setX W w.heap.size X).alloc o).cell? ⟨w.heap.size, 2, none⟩ = some (.int .i64 X.x.i) ∧ ((setX W w.heap.size X).alloc o).cell? ⟨w.heap.size, 3, none⟩ = some (.string X.x.s) ∧
    ((setX W w.heap.size X).alloc o).cell? ⟨w.heap.size, 4, none⟩ = some (.slice X.x.a X.x.n X.x.c) ∧ ((setX W w.heap.size X).alloc o).cell? ⟨w.heap.size, 5, none⟩ = some (.string X.w) ∧ ((setX W w.heap.size X).alloc o).cell? ⟨w.heap.size, 6, none⟩ = some (.string X.n) ∧ ((setX W w.heap.size X).alloc o).cell? ⟨w.heap.size, 7, none⟩ = some (.slice X.a X.l X.c) := by
  have hp := h.fin h0 ht
  have gs : (setX W w.heap.size X).heap[w.heap.size]? = _ := heap_set8 h.res (.string X.o) (.int .i64 X.x.k) (.int .i64 X.x.i) (.string X.x.s) (.slice X.x.a X.x.n X.x.c) (.string X.w) (.string X.n) (.slice X.a X.l X.c)
  generalize setX W w.heap.size X = V at *
  have hbV : Below V.heap.size V (V.alloc o) := (Below.refl _ _).alloc (Nat.le_refl _) _
  have gF := (hbV.block _ (lt_block gs)).trans gs
  exact ⟨hp.low hbV, cell_block gF 0, cell_block gF 1, cell_block gF 2, cell_block gF 3, cell_block gF 4, cell_block gF 5, cell_block gF 6, cell_block gF 7⟩
/-- how many tokens a reader in memory has read -/
def atOf (b : Nat) (w : World) : Nat := match w.cell? ⟨b, 1, none⟩ with
  | some (.int _ n) => n.toNat
  | _ => 0
set_option maxRecDepth 100000 in
theorem Rd.atOf {I : RI} {w : World} {p : PS} (h : Rd I w p) : atOf I.b w = p.at' := by unfold Go.Proofs.YtllgodaphoncnaaGreatDoor.atOf; rw [h.c1]; simp
set_option maxRecDepth 100000 in
/-- what a bag's item is like -/
theorem member_like (T : List Tk) (p : PS) : (memberP T p).1.s.size ≤ maxLen ∧ ((memberP T p).1.k == 5) = false ∧ (memberP T p).1.a = none ∧ (memberP T p).1.n = 0 ∧ (memberP T p).1.c = 0 := by
  have h0 : (⟨#[]⟩ : ByteArray).size ≤ maxLen := by decide
  unfold memberP
  split
  · split
    · exact ⟨h0, rfl, rfl, rfl, rfl⟩
    · exact ⟨h0, rfl, rfl, rfl, rfl⟩
  · split
    · rename_i v h
      have hs := ahead_short T p
      obtain ⟨ha, hb, hc⟩ := litP_shape h
      refine ⟨?_, ?_, ha, hb, hc⟩
      · unfold litP at h
        split at h
        · obtain rfl := Option.some.inj h; exact h0
        · split at h
          · obtain rfl := Option.some.inj h; show (st _).size ≤ _; rw [size_st]; unfold maxLen; omega
          · split at h
            · obtain rfl := Option.some.inj h; exact h0
            · split at h
              · obtain rfl := Option.some.inj h; exact h0
              · cases h
      · unfold litP at h
        split at h
        · obtain rfl := Option.some.inj h; rfl
        · split at h
          · obtain rfl := Option.some.inj h; rfl
          · split at h
            · obtain rfl := Option.some.inj h; rfl
            · split at h
              · obtain rfl := Option.some.inj h; rfl
              · cases h
    · exact ⟨h0, rfl, rfl, rfl, rfl⟩
/-- a bag's items in a row of one's own -/
structure BagW (I : RI) (w W : World) (q : PS) (v : Value) (l : List Val) : Prop where
  res : ResX I w W q
  own : Owns W (w.heap.size + 1) v l
  small : ∀ x ∈ l, x.s.size ≤ maxLen ∧ (x.k == 5) = false
  len : l.length ≤ q.at' + 1
set_option maxRecDepth 100000 in
theorem Owns.keptX {w w' : World} {N b : Nat} {v : Value} {l : List Val} (h : Owns w N v l) (hk : Kept1 b w w') (hb : b < N) : Owns w' N v l := by
  obtain ⟨h1, h2⟩ := h.row
  refine ⟨⟨h1, ?_⟩⟩
  rcases h2 with h2 | ⟨g, cap, cur, e, hg, hc, rest⟩
  · exact .inl h2
  · exact .inr ⟨g, cap, cur, e, hg, (hk.block g (lt_block hc) (by omega)).trans hc, rest⟩
set_option maxRecDepth 100000 in
theorem owns_new {W : World} {N g : Nat} {x : Val} (h : W.heap[g]? = some (.cells #[.int .i64 x.k, .int .i64 x.i, .string x.s, .slice x.a x.n x.c] 24 (0, 0))) (hg : N ≤ g) : Owns W N (.slice (some ⟨g, 0, none⟩) 1 1) [x] := by
  refine ⟨⟨by simp [cellsL, Val.cells], .inr ⟨g, 1, _, rfl, hg, h, by simp, by decide, by simp, by simp [cellsL, Val.cells]⟩⟩⟩
set_option maxRecDepth 100000 in
theorem BagW.go {I : RI} {w W W' : World} {q q' : PS} {v : Value} {l : List Val} (h0 : I.b < w.heap.size) (h : BagW I w W q v l) (hr : Rd I W' q') (hk : Kept1 I.b W W') (hq : q.at' ≤ q'.at') : BagW I w W' q' v l :=
  ⟨h.res.go h0 hr hk, h.own.keptX hk (by omega), h.small, by have := h.len; omega⟩
set_option maxRecDepth 100000 in
set_option maxHeartbeats 4000000 in
theorem rbag_any (I : RI) (w : World) (p : PS) (h : Rd I w p) (hp : 1 ≤ p.at') :
    Calls Tryz.prog 153 #[I.ptr] w (PostT I w (bagP I.T p)) := by
  have HM := Lib.hid (fun W q (hr : Rd I W q) => member_any I W q hr)
  have HTK := Lib.hid (fun W q (hr : Rd I W q) => takes_any I W q hr kComma)
  have HND := Lib.hid (fun W q (hr : Rd I W q) => needs_any I W q hr kClose)
  have HFL := Lib.hid (fun W q (hr : Rd I W q) pl => fail_any I W q hr 2 (by decide) pl)
  have H := Lib.hid h
  have HR0 := Lib.hid (resX_new h)
  have HLT := Lib.hid h.lt
  have hlen := I.len
  have hat := h.at'
  clear h
  obtain ⟨k0, hk0⟩ : ∃ k, p.at' = k + 1 := ⟨p.at' - 1, by omega⟩
  have hml := member_like I.T p
  have hmon := (adv_member (T := I.T) p).mono
  unfold bagP
  rw [show p.at' - 1 = k0 by omega]
  have c1 : (w.alloc zero8).cell? ⟨I.b, 1, none⟩ = some (.int .i64 ((k0 : Int) + 1)) := by rw [HR0.out.rd.c1, hk0]; simp
  have HM0 := Lib.hid (fun W (hr : Rd I W p) => HM.out W p hr)
  obtain ⟨m, hm⟩ : ∃ m, memberP I.T p = m := ⟨_, rfl⟩
  rw [hm] at HM0 hml hmon ⊢
  obtain ⟨x0, q0⟩ := m
  obtain ⟨R, hR⟩ : ∃ R, membersP I.T (I.T.length + 1) ([x0], q0) = R := ⟨_, rfl⟩
  dsimp only at HM0 hml hmon ⊢
  rw [hR]
  have HRR := Lib.hid hR
  have HML := Lib.hid hml
  have HMON := Lib.hid hmon
  clear hm hR hml hmon
  unfold RI.ptr at *
  go_enter Tryz.func153, Tryz.ntmps153
  go_wp2_with fail
  refine (HM0.out _ HR0.out.rd).mono ?_
  rintro e w1 ⟨rfl, h1, h2⟩
  have HR1 := Lib.hid (HR0.out.go HLT.out h1 h2)
  have hs1 : w.heap.size + 1 ≤ w1.heap.size := by have := h2.size; simpa using this
  clear h1 h2 c1 HM0 HR0
  obtain ⟨a1, a2, a3, a4, a5⟩ := HML.out
  obtain ⟨xk, xi, xs, xa, xn, xc⟩ := x0
  dsimp only at a1 a2 a3 a4 a5
  subst a3 a4 a5
  have HB1 : Hid (BagW I w (w1.alloc (.cells #[.int .i64 xk, .int .i64 xi, .string xs, .slice none 0 0] 24 (0, 0))) q0 (.slice (some ⟨w1.heap.size, 0, none⟩) 1 1) [⟨xk, xi, xs, none, 0, 0⟩]) :=
    Lib.hid ⟨HR1.out.low ((Below.refl _ _).alloc (Nat.le_refl _) _), owns_new (x := ⟨xk, xi, xs, none, 0, 0⟩) (heap_alloc_new _ _) hs1, fun x hx => by obtain rfl := List.mem_singleton.1 hx; exact ⟨a1, a2⟩, by simp⟩
  clear a1 a2 HML hs1
  unfold Val.v
  dsimp only
  go_wp2_with fail
  go_loopw [4] (fun v wr => ∃ (l : List Val) (q : PS) (n : Nat), Hid (membersP I.T n (l, q) = R) ∧ I.T.length < q.at' + n ∧ p.at' ≤ q.at' ∧ Hid (BagW I w wr q v l)) (fun _ wr => 601 - atOf I.b wr)
  case atStart => exact ⟨_, q0, _, HRR, by have := HMON.out; omega, HMON.out, HB1⟩
  case round =>
    clear HB1 HRR HMON HR1
    obtain ⟨l, q, n, HRR, hn, hpq, HB⟩ := hrel
    have hqT := HB.out.res.rd.at'
    have HTQ := Lib.hid (HTK.out _ q HB.out.res.rd)
    obtain ⟨n, rfl⟩ : ∃ m, n = m + 1 := ⟨n - 1, by omega⟩
    have HAT := Lib.hid HB.out.res.rd.atOf
    by_cases hc : isP (aheadP I.T q) kComma = true
    · have e1 : membersP I.T (n + 1) (l, q) = membersP I.T n (l ++ [(memberP I.T (passP q)).1], (memberP I.T (passP q)).2) := by rw [membersP, if_pos hc]
      have HR2 := HRR.out
      rw [e1] at HR2
      have HRR := Lib.hid HR2
      have HTQ' := HTQ.out
      rw [takes_yes hc, hc] at HTQ'
      have HTQ := Lib.hid HTQ'
      have hlt := (ahead_ne (isP_ne hc)).2.1
      have hml := member_like I.T (passP q)
      have hmon := (adv_member (T := I.T) (passP q)).mono
      have hpa : (passP q).at' = q.at' + 1 := rfl
      have HM1 := Lib.hid (fun W (hr : Rd I W (passP q)) => HM.out W _ hr)
      obtain ⟨m, hm⟩ : ∃ m, memberP I.T (passP q) = m := ⟨_, rfl⟩
      rw [hm] at HM1 hml hmon HRR
      obtain ⟨x, q2⟩ := m
      dsimp only at HM1 hml hmon
      rw [hpa] at hmon
      have HMON := Lib.hid hmon
      have HML := Lib.hid hml
      have HLTQ := Lib.hid hlt
      have HN := Lib.hid hn
      have HPQ := Lib.hid hpq
      clear HR2 HTQ' hc e1 hm hml hmon hpa hlt hn hpq hqT
      go_wp2_with fail
      refine HTQ.out.mono ?_
      rintro e w2 ⟨rfl, h1, h2⟩
      have HB2 := Lib.hid (HB.out.go HLT.out h1 h2 (by simp [passP]))
      clear h1 h2 HTQ
      go_wp2_with fail
      refine (HM1.out _ HB2.out.res.rd).mono ?_
      rintro e w3 ⟨rfl, h1, h2⟩
      have HB3 := Lib.hid (HB2.out.go HLT.out h1 h2 (by have := HMON.out; simp only [passP]; omega))
      clear h1 h2 HB2 HM1
      obtain ⟨a1, a2, a3, a4, a5⟩ := HML.out
      obtain ⟨xk, xi, xs, xa, xn, xc⟩ := x
      dsimp only at a1 a2 a3 a4 a5
      subst a3 a4 a5
      have HX : Hid (xs.size ≤ maxLen ∧ (xk == 5) = false) := Lib.hid ⟨a1, a2⟩
      clear a1 a2 HML
      unfold Val.v
      dsimp only
      have hll : l.length + 1 ≤ 100000 := by have := HB3.out.len; have := HB3.out.res.rd.at'; omega
      have hsz : w.heap.size + 1 ≤ w3.heap.size := lt_block HB3.out.res.res
      have hown : Owns (w3.alloc (.cells #[.int .i64 xk, .int .i64 xi, .string xs, .slice none 0 0] 24 (0, 0))) (w.heap.size + 1) u4 l := HB3.out.own.keptX (Kept1.of_below (b := I.b) ((Below.refl _ _).alloc (Nat.le_refl _) _)) (by have := HLT.out; omega)
      have hsrc : Src (w3.alloc (.cells #[.int .i64 xk, .int .i64 xi, .string xs, .slice none 0 0] 24 (0, 0))) (.slice (some ⟨w3.heap.size, 0, none⟩) 1 1) [⟨xk, xi, xs, none, 0, 0⟩] := src_one (heap_alloc_new _ _)
      have HO := Lib.hid hown
      have HSR := Lib.hid hsrc
      have HSZ := Lib.hid hsz
      clear hown hsrc hsz
      go_wp2_with (refine append_vals rfl (.tmp 20) (.tmp 23) rfl (w.heap.size + 1) l [⟨xk, xi, xs, none, 0, 0⟩] u4 rfl HO.out _ rfl HSR.out (by simpa using hll) (by have := HSZ.out; simp; omega) _ rfl ?_)
      intro v' w4 hown hbel
      have hres : ResX I w w4 q2 := (HB3.out.res.low ((Below.refl _ _).alloc (Nat.le_refl _) _)).over H.out hbel
      have HB4 : Hid (BagW I w w4 q2 v' (l ++ [⟨xk, xi, xs, none, 0, 0⟩])) := Lib.hid ⟨hres, hown, fun x hx => by
        rcases List.mem_append.1 hx with hx | hx
        · exact HB3.out.small x hx
        · obtain rfl := List.mem_singleton.1 hx; exact HX.out, by simp only [List.length_append, List.length_singleton]; have := HB.out.len; have := HMON.out; omega⟩
      clear hown hbel hres HO HSR
      go_wp2_with fail
      go_roundw
      case rel => exact ⟨_, q2, n, HRR, by have := HN.out; have := HMON.out; omega, by have := HPQ.out; have := HMON.out; omega, HB4⟩
      case measure =>
        rw [HB4.out.res.rd.atOf, HAT.out]
        have := HMON.out
        have := HB4.out.res.rd.at'
        omega
    · have hc' : isP (aheadP I.T q) kComma = false := by simpa using hc
      have e1 : membersP I.T (n + 1) (l, q) = (l, q) := by rw [membersP, if_neg hc]
      have hR2 : (l, q) = R := by rw [← e1]; exact HRR.out
      subst hR2
      have HTQ' := HTQ.out
      rw [takes_no hc', hc'] at HTQ'
      have HTQ := Lib.hid HTQ'
      have HND1 := Lib.hid (fun W (hr : Rd I W q) => HND.out W _ hr)
      have hnm := (adv_needs (T := I.T) kClose q).mono
      have HQB := Lib.hid hnm
      clear HTQ' hc hc' e1 HRR HM HTK HND hnm
      go_wp2_with fail
      refine HTQ.out.mono ?_
      rintro e w2 ⟨rfl, h1, h2⟩
      have HB2 := Lib.hid (HB.out.go HLT.out h1 h2 (Nat.le_refl _))
      clear h1 h2 HTQ HB
      go_wp2_with fail
      refine (HND1.out _ HB2.out.res.rd).mono ?_
      rintro e w3 ⟨rfl, h1, h2⟩
      have HB3 := Lib.hid (HB2.out.go HLT.out h1 h2 HQB.out)
      clear h1 h2 HB2 HND1
      obtain ⟨ad, g, cp, rfl, hla, hlg⟩ := own_list HB3.out.own.row (fun x hx => (HB3.out.small x hx).1)
      have hll : l.length ≤ 100000 := by have := HB3.out.len; have := HB3.out.res.rd.at'; omega
      have BG := Lib.hid (bagN_any w3 l ad g 0 cp (fun j => l[j]!.alone) hla hll (fun j hj => by
        have := HB3.out.small _ (List.getElem_mem hj)
        have h2 := formedIs_one l[j].k l[j].i l[j].s l[j].a l[j].n l[j].c w3 this.1 this.2
        show FormedIs w3 l[j].v (l[j]!.alone)
        rw [getElem!_pos l j hj]
        exact h2))
      have hsz : w.heap.size < w3.heap.size := lt_block HB3.out.res.res
      have HSZ := Lib.hid hsz
      clear hla hlg hll hsz
      obtain ⟨E, hE⟩ : ∃ E, bagE l (fun j => l[j]!.alone) = E := ⟨_, rfl⟩
      have hBV : bagV l = if E = 0 then ⟨5, 0, ⟨#[]⟩, bagTo l⟩ else noPV := by unfold bagV; rw [hE]
      rw [hE] at BG
      dsimp only
      obtain ⟨qf, hqf⟩ : ∃ qf, (if E = 0 then needsP I.T kClose q else failP 2 k0 (needsP I.T kClose q)) = qf := ⟨_, rfl⟩
      have HQF := Lib.hid hqf
      have HBV := Lib.hid hBV
      have hPT : bagTail I.T k0 (l, q) = (valT (bagV l), qf) := by unfold bagTail; dsimp only; rw [hE, hqf]
      have HPT := Lib.hid hPT
      obtain ⟨q3, hq3⟩ : ∃ q3, needsP I.T kClose q = q3 := ⟨_, rfl⟩
      rw [hq3] at HQF HB3
      clear hE hBV hqf hPT hq3
      go_wp2_with fail
      refine BG.out.mono ?_
      rintro e w4 ⟨y, ly, rfl, hbi, hbl, gg, go, hlg, hng⟩
      have HR4 := Lib.hid (HB3.out.res.low hbl)
      have HBI := Lib.hid hbi
      have HLG := Lib.hid hlg
      have HNG := Lib.hid hng
      have HS4 := Lib.hid (show w3.heap.size ≤ w4.heap.size from hbl.size)
      clear hbi hbl hlg hng BG HB3
      by_cases hE0 : E = 0
      · subst hE0
        obtain ⟨b1, b2, b3, b4⟩ := HBI.out.good rfl
        obtain rfl : q3 = qf := by rw [← HQF.out, if_pos rfl]
        have hVI : ValIs (w.heap.size + 1 ≤ ·) w4 y (bagV l) := by
          have hf := HBI.out.full
          rw [HBV.out, if_pos rfl]
          exact ⟨b1, b2, b3, by rw [← b4]; exact hf.len, ⟨gg, go, by rw [← b4]; exact HLG.out, fun hne => by have := HNG.out (by rw [b4]; exact hne); have := HSZ.out; omega⟩, hf.size, hf.most⟩
        have HVI := Lib.hid hVI
        have HR5 := Lib.hid (HR4.out.low ((Below.refl _ _).alloc (Nat.le_refl _) (.cells #[.int .i64 y.k, .int .i64 y.i, .string y.s, .slice y.a y.n y.c] 24 (0, 0))))
        obtain ⟨z0, z1, z2, z3, z4, z5, z6, z7, zf⟩ := HR4.out.cells
        have hl : w.heap.size < w4.heap.size := lt_block HR4.out.res
        have hn2 : ¬ w.heap.size = w4.heap.size := by omega
        clear b1 b2 b3 b4 hVI HQF HBI
        unfold Val.v
        go_wp2_with fail
        obtain ⟨hpost, x0, x1, x2, x3, x4, x5, x6, x7⟩ := HR4.out.finA (t := valT (bagV l)) (X := ⟨⟨#[118, 97, 108, 117, 101]⟩, y, ⟨#[]⟩, ⟨#[]⟩, none, 0, 0⟩) H.out (trAt_leaf (op := kValue) (who := []) (name := []) y HVI.out none 0) (.cells #[.int .i64 y.k, .int .i64 y.i, .string y.s, .slice y.a y.n y.c] 24 (0, 0))
        rw [HPT.out]
        clear z0 z1 z2 z3 z4 z5 z6 z7 zf hl hn2
        dsimp only [setX, set8] at hpost x0 x1 x2 x3 x4 x5 x6 x7
        generalize World.alloc _ _ = WF at *
        exact bodyPost_ret (v := XV.v ⟨⟨#[118, 97, 108, 117, 101]⟩, y, ⟨#[]⟩, ⟨#[]⟩, none, 0, 0⟩) (by simp [results, Tryz.results153, go_sem, XV.v, x0, x1, x2, x3, x4, x5, x6, x7]) rfl hpost
      · obtain ⟨rfl, rfl⟩ := HBI.out.bad hE0
        obtain rfl : failP 2 k0 q3 = qf := by rw [← HQF.out, if_neg hE0]
        have hVI : ∀ W, ValIs (w.heap.size + 1 ≤ ·) W ⟨0, 0, ⟨#[]⟩, none, 0, 0⟩ (bagV l) := fun W => by
          rw [HBV.out, if_neg hE0]
          exact valIs_none _ _
        have HVI := Lib.hid hVI
        have HR5 := Lib.hid (HR4.out.low ((Below.refl _ _).alloc (Nat.le_refl _) (.cells #[.int .i64 0, .int .i64 0, .string ⟨#[]⟩, .slice none 0 0] 24 (0, 0))))
        have hE1 : (E != 0) = true := by simpa using hE0
        have hne : w4.heap.size ≠ I.b := by have := HLT.out; have := lt_block HR4.out.res; omega
        have gv0 : (w4.alloc zero4).heap[w4.heap.size]? = some zero4 := heap_alloc_new _ _
        have HGV := Lib.hid gv0
        have HNE := Lib.hid hne
        clear hVI HQF HBI hE0 gv0 hne HBV
        unfold Val.v
        dsimp only
        go_wp2_with fail
        refine (HFL.out _ _ HR5.out.rd k0).mono ?_
        rintro e w5 ⟨rfl, h1, h2⟩
        have gv := (h2.block _ (by simp) HNE.out).trans HGV.out
        have v0 : w5.cell? ⟨w4.heap.size, 0, none⟩ = some (.int .i64 0) := cell_block gv 0
        have v1 : w5.cell? ⟨w4.heap.size, 1, none⟩ = some (.int .i64 0) := cell_block gv 1
        have v2 : w5.cell? ⟨w4.heap.size, 2, none⟩ = some (.string ⟨#[]⟩) := cell_block gv 2
        have v3 : w5.cell? ⟨w4.heap.size, 3, none⟩ = some (.slice none 0 0) := cell_block gv 3
        have HR6 := Lib.hid (HR5.out.go HLT.out h1 h2)
        obtain ⟨z0, z1, z2, z3, z4, z5, z6, z7, zf⟩ := HR6.out.cells
        have hfin := HR6.out.fin (t := valT (bagV l)) (X := ⟨⟨#[118, 97, 108, 117, 101]⟩, ⟨0, 0, ⟨#[]⟩, none, 0, 0⟩, ⟨#[]⟩, ⟨#[]⟩, none, 0, 0⟩) H.out (trAt_leaf (op := kValue) (who := []) (name := []) _ (HVI.out _) none 0)
        have HFIN := Lib.hid hfin
        clear h1 h2 gv HFL hfin
        go_wp2_with fail
        rw [HPT.out]
        exact bodyPost_ret (v := XV.v ⟨⟨#[118, 97, 108, 117, 101]⟩, ⟨0, 0, ⟨#[]⟩, none, 0, 0⟩, ⟨#[]⟩, ⟨#[]⟩, none, 0, 0⟩) (by simp [results, Tryz.results153, go_sem, XV.v, z0, z1, z2, z3, z4, z5, z6, z7]) rfl HFIN.out
end Go.Proofs.YtllgodaphoncnaaGreatDoor
