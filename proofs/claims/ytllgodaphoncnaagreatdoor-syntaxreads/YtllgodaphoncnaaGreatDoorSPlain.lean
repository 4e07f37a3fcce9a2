/- The levels of binding: what binds strongest. -/
import Derived.Test.YtllgodaphoncnaaGreatDoorJ34
namespace Go.Proofs.YtllgodaphoncnaaGreatDoor
open Go.RowKit

set_option maxRecDepth 100000 in
set_option maxHeartbeats 1000000 in
theorem call_has (I : RI) (w : World) (p : PS) (h : Rd I w p) : Calls Tryz.prog 155 #[I.ptr, .string ⟨#[104, 97, 115]⟩] w (PostT I w (attrP I.T kHas p)) := by
  have HR0 := Lib.hid (resX_new h)
  have HLT := Lib.hid h.lt
  have H := Lib.hid h
  have HA := Lib.hid (fun W (hr : Rd I W p) => attr_any I W p hr kHas)
  clear h
  rw [show st kHas = ⟨#[104, 97, 115]⟩ from rfl] at HA
  unfold RI.ptr at *
  generalize attrP I.T kHas p = R at *
  obtain ⟨t, q⟩ := R
  go_enter Tryz.func155, Tryz.ntmps155
  go_wp2_with fail
  refine (HA.out _ HR0.out.rd).mono ?_
  rintro e w1 ⟨X, rfl, ht, h1, h2⟩
  have HR1 := Lib.hid (HR0.out.go HLT.out h1 h2)
  obtain ⟨z0, z1, z2, z3, z4, z5, z6, z7, zf⟩ := HR1.out.cells
  have HFIN := Lib.hid (HR1.out.fin H.out (ht.mono (B' := fun k => w.heap.size + 1 ≤ k) (fun k _ hk => by have := lt_block HR0.out.res; omega)))
  clear h1 h2 ht HA
  unfold XV.v
  go_wp2_with fail
  exact bodyPost_ret (v := X.v) (by simp [results, Tryz.results155, go_sem, XV.v, z0, z1, z2, z3, z4, z5, z6, z7]) rfl HFIN.out
set_option maxRecDepth 100000 in
set_option maxHeartbeats 1000000 in
theorem call_role (I : RI) (w : World) (p : PS) (h : Rd I w p) : Calls Tryz.prog 155 #[I.ptr, .string ⟨#[114, 111, 108, 101]⟩] w (PostT I w (roleT (ownP I.T 3 p).1, (ownP I.T 3 p).2)) := by
  have HR0 := Lib.hid (resX_new h)
  have HLT := Lib.hid h.lt
  have H := Lib.hid h
  have HA := Lib.hid (fun W (hr : Rd I W p) => text_any' I W p hr)
  clear h
  unfold RI.ptr at *
  generalize ownP I.T 3 p = R at *
  obtain ⟨s, q⟩ := R
  dsimp only at *
  go_enter Tryz.func155, Tryz.ntmps155
  go_wp2_with fail
  refine (HA.out _ HR0.out.rd).mono ?_
  rintro e w1 ⟨rfl, h1, h2⟩
  have HR1 := Lib.hid (HR0.out.go HLT.out h1 h2)
  obtain ⟨z0, z1, z2, z3, z4, z5, z6, z7, zf⟩ := HR1.out.cells
  have HFIN := Lib.hid (HR1.out.fin (t := roleT s) (X := ⟨⟨#[114, 111, 108, 101]⟩, ⟨0, 0, ⟨#[]⟩, none, 0, 0⟩, ⟨#[]⟩, st s, none, 0, 0⟩) H.out (trAt_leaf (op := kRole) (who := []) (name := s) _ (valIs_none _ _) none 0))
  clear h1 h2 HA
  go_wp2_with fail
  exact bodyPost_ret (v := XV.v ⟨⟨#[114, 111, 108, 101]⟩, ⟨0, 0, ⟨#[]⟩, none, 0, 0⟩, ⟨#[]⟩, st s, none, 0, 0⟩) (by simp [results, Tryz.results155, go_sem, XV.v, z0, z1, z2, z3, z4, z5, z6, z7]) rfl HFIN.out
set_option maxRecDepth 100000 in
set_option maxHeartbeats 1000000 in
theorem call_size (I : RI) (w : World) (p : PS) (h : Rd I w p) (ex : PS → Tr × PS) (HF : ∀ W, Rd I W p → Calls Tryz.prog 40 #[I.ptr] W (PostT I W (ex p))) :
    Calls Tryz.prog 155 #[I.ptr, .string ⟨#[115, 105, 122, 101]⟩] w (PostT I w (mk1 kSize (ex p).1, (ex p).2)) := by
  have HR0 := Lib.hid (resX_new h)
  have HLT := Lib.hid h.lt
  have H := Lib.hid h
  have HF := Lib.hid HF
  clear h
  unfold RI.ptr at *
  generalize ex p = R at *
  obtain ⟨t, q⟩ := R
  dsimp only at *
  go_enter Tryz.func155, Tryz.ntmps155
  go_wp2_with fail
  refine (HF.out _ HR0.out.rd).mono ?_
  rintro e w2 ⟨X, rfl, ht, h1, h2⟩
  have HR2 := Lib.hid (HR0.out.go HLT.out h1 h2)
  have HT2 := Lib.hid (ht.mono (B' := fun k => w.heap.size + 1 ≤ k) (fun k _ hk => by have := lt_block HR0.out.res; omega))
  clear h1 h2 ht
  unfold XV.v
  go_wp2_with fail
  refine (made_any _ _ _ _ _).mono ?_
  rintro e w3 ⟨rfl, hb3⟩
  have hb2 : Below w2.heap.size w2 (w2.alloc (.cells #[.string X.o, .int .i64 X.x.k, .int .i64 X.x.i, .string X.x.s, .slice X.x.a X.x.n X.x.c, .string X.w, .string X.n, .slice X.a X.l X.c] 27 (0, 0))) := (Below.refl _ _).alloc (Nat.le_refl _) _
  have hb23 := hb2.trans (hb3.mono hb2.size)
  have hg : w3.heap[w2.heap.size]? = some (.cells X.cells.toArray 27 (0, 0)) := by rw [hb3.block _ (by simp)]; exact heap_alloc_new _ _
  have HR3 := Lib.hid (HR2.out.low hb23)
  have HFIN := Lib.hid (HR3.out.fin H.out (trAt_one (op := kSize) (HT2.out.low hb23) hg (lt_block HR2.out.res) 1))
  obtain ⟨z0, z1, z2, z3, z4, z5, z6, z7, zf⟩ := HR3.out.cells
  clear hb3 hb2 hb23 hg HT2
  unfold XV.v
  go_wp2_with fail
  exact bodyPost_ret (v := XV.v ⟨⟨#[115, 105, 122, 101]⟩, ⟨0, 0, ⟨#[]⟩, none, 0, 0⟩, ⟨#[]⟩, ⟨#[]⟩, some ⟨w2.heap.size, 0, none⟩, 1, 1⟩) (by simp [results, Tryz.results155, go_sem, XV.v, z0, z1, z2, z3, z4, z5, z6, z7]) rfl HFIN.out
set_option maxRecDepth 100000 in
theorem valIs_of (B : Nat → Prop) (w : World) (k i : Int) (s : ByteArray) (hs : s.size ≤ maxLen) : ValIs B w ⟨k, i, s, none, 0, 0⟩ (PV.of ⟨k, i, s, none, 0, 0⟩) := valIs_bare B w k i s hs
set_option maxRecDepth 100000 in
theorem litP_size {T : List Tk} {p : PS} {v : Val} (h : litP (aheadP T p) = some v) : v.s.size ≤ maxLen := by
  have hs := ahead_short T p
  have h0 : (⟨#[]⟩ : ByteArray).size ≤ maxLen := by decide
  unfold litP at h
  split at h
  · obtain rfl := Option.some.inj h; exact h0
  · split at h
    · obtain rfl := Option.some.inj h; show (st _).size ≤ _; rw [size_st]; unfold maxLen; omega
    · split at h
      · obtain rfl := Option.some.inj h; exact h0
      · split at h
        · obtain rfl := Option.some.inj h; exact h0
        · cases h
set_option maxRecDepth 100000 in
set_option maxHeartbeats 4000000 in
theorem plain_any (I : RI) (w : World) (p : PS) (h : Rd I w p) (ex : PS → Tr × PS) (_hex : Reads1 I.T ex) (HF : ∀ W q, p.at' < q.at' → Rd I W q → Calls Tryz.prog 40 #[I.ptr] W (PostT I W (ex q))) :
    Calls Tryz.prog 149 #[I.ptr] w (PostT I w (plainP I.T ex p)) := by
  have HR0 := Lib.hid (resX_new h)
  have HLT := Lib.hid h.lt
  have H := Lib.hid h
  have HLI' := fun W (hr : Rd I W p) => literal_any I W p hr
  have HF := Lib.hid HF
  clear h
  cases hl : litP (aheadP I.T p) with
  | some v =>
    have hP : plainP I.T ex p = (valT (PV.of v), passP p) := by unfold plainP; rw [hl]
    rw [hP]
    have hsz := litP_size hl
    obtain ⟨ha, hb, hc⟩ := litP_shape hl
    rw [lit_some hl] at HLI'
    obtain ⟨k, i, s, a, n, c⟩ := v
    dsimp only at ha hb hc hsz
    subst ha hb hc
    have HLI := Lib.hid HLI'
    have HSZ := Lib.hid hsz
    clear hP hl HLI' hsz HF
    dsimp only [Val.v] at *
    unfold RI.ptr at *
    go_enter Tryz.func149, Tryz.ntmps149
    go_wp2_with fail
    refine (HLI.out _ HR0.out.rd).mono ?_
    rintro e w1 ⟨rfl, h1, h2⟩
    have HR1 := Lib.hid (HR0.out.go HLT.out h1 h2)
    obtain ⟨hpost, x0, x1, x2, x3, x4, x5, x6, x7⟩ := HR1.out.finA (t := valT (PV.of ⟨k, i, s, none, 0, 0⟩)) (X := ⟨⟨#[118, 97, 108, 117, 101]⟩, ⟨k, i, s, none, 0, 0⟩, ⟨#[]⟩, ⟨#[]⟩, none, 0, 0⟩) H.out (trAt_leaf (op := kValue) (who := []) (name := []) _ (valIs_of _ _ k i s HSZ.out) none 0) (.cells #[.int .i64 k, .int .i64 i, .string s, .slice none 0 0] 24 (0, 0))
    have HPO := Lib.hid hpost
    have HXX := Lib.hid (And.intro x0 (And.intro x1 (And.intro x2 (And.intro x3 (And.intro x4 (And.intro x5 (And.intro x6 x7)))))))
    clear h1 h2 HLI hpost x0 x1 x2 x3 x4 x5 x6 x7
    obtain ⟨z0, z1, z2, z3, z4, z5, z6, z7, zf⟩ := HR1.out.cells
    have hl : w.heap.size < w1.heap.size := lt_block HR1.out.res
    have hn : ¬ w.heap.size = w1.heap.size := by omega
    go_wp2_with fail
    have hpost := HPO.out
    obtain ⟨x0, x1, x2, x3, x4, x5, x6, x7⟩ := HXX.out
    clear z0 z1 z2 z3 z4 z5 z6 z7 zf hl hn HPO HXX
    dsimp only [setX, set8] at hpost x0 x1 x2 x3 x4 x5 x6 x7
    generalize World.alloc _ _ = WF at *
    exact bodyPost_ret (v := XV.v ⟨⟨#[118, 97, 108, 117, 101]⟩, ⟨k, i, s, none, 0, 0⟩, ⟨#[]⟩, ⟨#[]⟩, none, 0, 0⟩) (by simp [results, Tryz.results149, go_sem, XV.v, x0, x1, x2, x3, x4, x5, x6, x7]) rfl hpost
  | none =>
    rw [lit_none hl] at HLI'
    have HLI := Lib.hid HLI'
    have HAH' := fun W (hr : Rd I W p) => ahead_any I W p hr
    have HTN' := fun W (hr : Rd I W p) c => takesNew_any I W p hr plainOps 6 rfl (by omega) 9 (0, 0) #[.string ⟨#[110, 111, 119]⟩, .string ⟨#[104, 97, 115]⟩, .string ⟨#[114, 111, 108, 101]⟩, .string ⟨#[115, 105, 122, 101]⟩, .string ⟨#[91]⟩, .string ⟨#[40]⟩] rfl c
    have HAT := Lib.hid (fun W (hr : Rd I W p) => attr_any I W p hr kAttr)
    have HST := Lib.hid (fun W (hr : Rd I W p) => stop_any I W p hr)
    rw [show st kAttr = ⟨#[97, 116, 116, 114]⟩ from rfl] at HAT
    obtain ⟨s, hs⟩ : ∃ s, (aheadP I.T p).s = s := ⟨_, rfl⟩
    have es := toList_st s
    have htv := tok_val (aheadP I.T p)
    rw [hs] at htv
    rw [htv] at HAH'
    obtain ⟨S, hS⟩ : ∃ S, st s = S := ⟨_, rfl⟩
    rw [hS] at HAH' es
    obtain ⟨ak, hak⟩ : ∃ k, (aheadP I.T p).k = k := ⟨_, rfl⟩
    obtain ⟨an, han⟩ : ∃ k, (aheadP I.T p).n = k := ⟨_, rfl⟩
    rw [hak, han] at HAH'
    have HAH := Lib.hid HAH'
    clear HLI' HAH' htv hak han hS
    have hW : ∀ b1 b2 b3 b4, (s == kSubject) = b1 → (s == kResource) = b2 → (s == kAction) = b3 → (s == kEnv) = b4 → whoL.contains s = (b1 || (b2 || (b3 || b4))) := by
      intro b1 b2 b3 b4 h1 h2 h3 h4
      simp only [whoL, List.contains_cons, h1, h2, h3, h4, List.contains_nil, Bool.or_false]
    obtain ⟨b1, hb1⟩ : ∃ b, (s == [115, 117, 98, 106, 101, 99, 116]) = b := ⟨_, rfl⟩
    obtain ⟨b2, hb2⟩ : ∃ b, (s == [114, 101, 115, 111, 117, 114, 99, 101]) = b := ⟨_, rfl⟩
    obtain ⟨b3, hb3⟩ : ∃ b, (s == [97, 99, 116, 105, 111, 110]) = b := ⟨_, rfl⟩
    obtain ⟨b4, hb4⟩ : ∃ b, (s == [101, 110, 118]) = b := ⟨_, rfl⟩
    have hW' := hW b1 b2 b3 b4 hb1 hb2 hb3 hb4
    clear hW
    cases b1 with
    | true =>
      have hP : plainP I.T ex p = attrP I.T kAttr p := by unfold plainP; rw [hl, hs, hW']; rfl
      rw [hP]
      clear hP hW' hs hl HF HST HTN'
      unfold RI.ptr at *
      dsimp only [Val.v, noVal] at *
      generalize attrP I.T kAttr p = R at *
      obtain ⟨t, q⟩ := R
      go_enter Tryz.func149, Tryz.ntmps149
      go_wp2_with fail
      refine (HLI.out _ HR0.out.rd).mono ?_
      rintro e w1 ⟨rfl, h1, h2⟩
      have HR1 := Lib.hid ((HR0.out.go HLT.out h1 h2).low ((Below.refl _ _).alloc (Nat.le_refl _) zero4))
      clear h1 h2 HLI
      go_wp2_with fail
      refine (HAH.out _ HR1.out.rd).mono ?_
      rintro e w2 ⟨rfl, h1⟩
      have HR2 := Lib.hid (HR1.out.low h1)
      clear h1 HAH
      have hfl := fld1 ak S an
      go_wp2_with fail
      refine (HAT.out _ HR2.out.rd).mono ?_
      rintro e w3 ⟨X, rfl, ht, h1, h2⟩
      have HR3 := Lib.hid (HR2.out.go HLT.out h1 h2)
      obtain ⟨z0, z1, z2, z3, z4, z5, z6, z7, zf⟩ := HR3.out.cells
      have HFIN := Lib.hid (HR3.out.fin H.out (ht.mono (B' := fun k => w.heap.size + 1 ≤ k) (fun k _ hk => by have := lt_block HR2.out.res; omega)))
      clear h1 h2 ht HAT
      unfold XV.v
      go_wp2_with fail
      exact bodyPost_ret (v := X.v) (by simp [results, Tryz.results149, go_sem, XV.v, z0, z1, z2, z3, z4, z5, z6, z7]) rfl HFIN.out
    | false =>
      cases b2 with
      | true =>
        have hP : plainP I.T ex p = attrP I.T kAttr p := by unfold plainP; rw [hl, hs, hW']; rfl
        rw [hP]
        clear hP hW' hs hl HF HST HTN'
        unfold RI.ptr at *
        dsimp only [Val.v, noVal] at *
        generalize attrP I.T kAttr p = R at *
        obtain ⟨t, q⟩ := R
        go_enter Tryz.func149, Tryz.ntmps149
        go_wp2_with fail
        refine (HLI.out _ HR0.out.rd).mono ?_
        rintro e w1 ⟨rfl, h1, h2⟩
        have HR1 := Lib.hid ((HR0.out.go HLT.out h1 h2).low ((Below.refl _ _).alloc (Nat.le_refl _) zero4))
        clear h1 h2 HLI
        go_wp2_with fail
        refine (HAH.out _ HR1.out.rd).mono ?_
        rintro e w2 ⟨rfl, h1⟩
        have HR2 := Lib.hid (HR1.out.low h1)
        clear h1 HAH
        have hfl := fld1 ak S an
        go_wp2_with fail
        refine (HAT.out _ HR2.out.rd).mono ?_
        rintro e w3 ⟨X, rfl, ht, h1, h2⟩
        have HR3 := Lib.hid (HR2.out.go HLT.out h1 h2)
        obtain ⟨z0, z1, z2, z3, z4, z5, z6, z7, zf⟩ := HR3.out.cells
        have HFIN := Lib.hid (HR3.out.fin H.out (ht.mono (B' := fun k => w.heap.size + 1 ≤ k) (fun k _ hk => by have := lt_block HR2.out.res; omega)))
        clear h1 h2 ht HAT
        unfold XV.v
        go_wp2_with fail
        exact bodyPost_ret (v := X.v) (by simp [results, Tryz.results149, go_sem, XV.v, z0, z1, z2, z3, z4, z5, z6, z7]) rfl HFIN.out
      | false =>
        cases b3 with
        | true =>
          have hP : plainP I.T ex p = attrP I.T kAttr p := by unfold plainP; rw [hl, hs, hW']; rfl
          rw [hP]
          clear hP hW' hs hl HF HST HTN'
          unfold RI.ptr at *
          dsimp only [Val.v, noVal] at *
          generalize attrP I.T kAttr p = R at *
          obtain ⟨t, q⟩ := R
          go_enter Tryz.func149, Tryz.ntmps149
          go_wp2_with fail
          refine (HLI.out _ HR0.out.rd).mono ?_
          rintro e w1 ⟨rfl, h1, h2⟩
          have HR1 := Lib.hid ((HR0.out.go HLT.out h1 h2).low ((Below.refl _ _).alloc (Nat.le_refl _) zero4))
          clear h1 h2 HLI
          go_wp2_with fail
          refine (HAH.out _ HR1.out.rd).mono ?_
          rintro e w2 ⟨rfl, h1⟩
          have HR2 := Lib.hid (HR1.out.low h1)
          clear h1 HAH
          have hfl := fld1 ak S an
          go_wp2_with fail
          refine (HAT.out _ HR2.out.rd).mono ?_
          rintro e w3 ⟨X, rfl, ht, h1, h2⟩
          have HR3 := Lib.hid (HR2.out.go HLT.out h1 h2)
          obtain ⟨z0, z1, z2, z3, z4, z5, z6, z7, zf⟩ := HR3.out.cells
          have HFIN := Lib.hid (HR3.out.fin H.out (ht.mono (B' := fun k => w.heap.size + 1 ≤ k) (fun k _ hk => by have := lt_block HR2.out.res; omega)))
          clear h1 h2 ht HAT
          unfold XV.v
          go_wp2_with fail
          exact bodyPost_ret (v := X.v) (by simp [results, Tryz.results149, go_sem, XV.v, z0, z1, z2, z3, z4, z5, z6, z7]) rfl HFIN.out
        | false =>
          cases b4 with
          | true =>
            have hP : plainP I.T ex p = attrP I.T kAttr p := by unfold plainP; rw [hl, hs, hW']; rfl
            rw [hP]
            clear hP hW' hs hl HF HST HTN'
            unfold RI.ptr at *
            dsimp only [Val.v, noVal] at *
            generalize attrP I.T kAttr p = R at *
            obtain ⟨t, q⟩ := R
            go_enter Tryz.func149, Tryz.ntmps149
            go_wp2_with fail
            refine (HLI.out _ HR0.out.rd).mono ?_
            rintro e w1 ⟨rfl, h1, h2⟩
            have HR1 := Lib.hid ((HR0.out.go HLT.out h1 h2).low ((Below.refl _ _).alloc (Nat.le_refl _) zero4))
            clear h1 h2 HLI
            go_wp2_with fail
            refine (HAH.out _ HR1.out.rd).mono ?_
            rintro e w2 ⟨rfl, h1⟩
            have HR2 := Lib.hid (HR1.out.low h1)
            clear h1 HAH
            have hfl := fld1 ak S an
            go_wp2_with fail
            refine (HAT.out _ HR2.out.rd).mono ?_
            rintro e w3 ⟨X, rfl, ht, h1, h2⟩
            have HR3 := Lib.hid (HR2.out.go HLT.out h1 h2)
            obtain ⟨z0, z1, z2, z3, z4, z5, z6, z7, zf⟩ := HR3.out.cells
            have HFIN := Lib.hid (HR3.out.fin H.out (ht.mono (B' := fun k => w.heap.size + 1 ≤ k) (fun k _ hk => by have := lt_block HR2.out.res; omega)))
            clear h1 h2 ht HAT
            unfold XV.v
            go_wp2_with fail
            exact bodyPost_ret (v := X.v) (by simp [results, Tryz.results149, go_sem, XV.v, z0, z1, z2, z3, z4, z5, z6, z7]) rfl HFIN.out
          | false =>
            have hW2 : whoL.contains (aheadP I.T p).s = false := by rw [hs, hW']; rfl
            clear hW' hs
            have hpp : plainP I.T ex p = (if (takesOneP I.T plainOps p).1 = kNow then (leafT kNow, (takesOneP I.T plainOps p).2)
                else if (takesOneP I.T plainOps p).1 = kOpen then bagP I.T (takesOneP I.T plainOps p).2
                else if (takesOneP I.T plainOps p).1 = kPar then closedP I.T (ex (takesOneP I.T plainOps p).2)
                else if (takesOneP I.T plainOps p).1 = [] then (noTr, stopP (takesOneP I.T plainOps p).2)
                else closedP I.T (callP I.T ex (takesOneP I.T plainOps p).1 (needsP I.T kPar (takesOneP I.T plainOps p).2))) := by
              unfold plainP; rw [hl]; simp only [hW2, Bool.false_eq_true, if_false]
            rw [hpp]
            clear hpp hl hW2 HAT
            rcases takesOne_cases (T := I.T) plainOps p with ⟨ho, -⟩ | ⟨ow, how, hit, ho⟩
            · rw [ho] at HTN' ⊢
              dsimp only at HTN' ⊢
              rw [show st ([] : List UInt8) = ⟨#[]⟩ from rfl] at HTN'
              have HTN := Lib.hid HTN'
              rw [if_neg (by decide), if_neg (by decide), if_neg (by decide), if_pos rfl]
              clear ho HTN' HF
              unfold RI.ptr at *
              dsimp only [Val.v, noVal] at *
              go_enter Tryz.func149, Tryz.ntmps149
              go_wp2_with fail
              refine (HLI.out _ HR0.out.rd).mono ?_
              rintro e w1 ⟨rfl, h1, h2⟩
              have HR1 := Lib.hid ((HR0.out.go HLT.out h1 h2).low ((Below.refl _ _).alloc (Nat.le_refl _) zero4))
              clear h1 h2 HLI
              go_wp2_with fail
              refine (HAH.out _ HR1.out.rd).mono ?_
              rintro e w2 ⟨rfl, h1⟩
              have HR2 := Lib.hid (HR1.out.low h1)
              clear h1 HAH
              have hfl := fld1 ak S an
              have HTT := Lib.hid (fun c => HTN.out _ HR2.out.rd c)
              go_wp2_with fail
              refine (HTT.out _).mono ?_
              rintro e w3 ⟨rfl, h1, h2⟩
              have HR3 := Lib.hid (HR2.out.go HLT.out h1 h2)
              clear h1 h2 HTT HTN
              go_wp2_with fail
              refine (HST.out _ HR3.out.rd).mono ?_
              rintro e w4 ⟨rfl, h1, h2⟩
              have HR4 := Lib.hid (HR3.out.go HLT.out h1 h2)
              obtain ⟨z0, z1, z2, z3, z4, z5, z6, z7, zf⟩ := HR4.out.cells
              have HFIN := Lib.hid (HR4.out.fin (t := noTr) (X := ⟨⟨#[]⟩, ⟨0, 0, ⟨#[]⟩, none, 0, 0⟩, ⟨#[]⟩, ⟨#[]⟩, none, 0, 0⟩) H.out (trAt_leaf (op := []) (who := []) (name := []) _ (valIs_none _ _) none 0))
              clear h1 h2 HST
              go_wp2_with fail
              exact bodyPost_ret (v := XV.v ⟨⟨#[]⟩, ⟨0, 0, ⟨#[]⟩, none, 0, 0⟩, ⟨#[]⟩, ⟨#[]⟩, none, 0, 0⟩) (by simp [results, Tryz.results149, go_sem, XV.v, z0, z1, z2, z3, z4, z5, z6, z7]) rfl HFIN.out
            · have hlt := (ahead_ne (isP_ne hit)).2.1
              have hq1 : (passP p).at' = p.at' + 1 := rfl
              have HFQ := Lib.hid (fun W q (hq : (passP p).at' ≤ q.at') (hr : Rd I W q) => HF.out W q (by omega) hr)
              rw [ho] at HTN' ⊢
              dsimp only at HTN' ⊢
              clear HF ho hit HST hlt
              obtain ⟨q, hq⟩ : ∃ q, passP p = q := ⟨_, rfl⟩
              rw [hq] at HTN' HFQ hq1 ⊢
              clear hq
              simp only [plainOps, List.mem_cons, List.not_mem_nil, or_false] at how
              rcases how with rfl | rfl | rfl | rfl | rfl | rfl
              · rw [show st kNow = ⟨#[110, 111, 119]⟩ from rfl] at HTN'
                have HTN := Lib.hid HTN'
                clear HTN'
                rw [if_pos rfl]
                clear HFQ hq1
                unfold RI.ptr at *
                dsimp only [Val.v, noVal] at *
                go_enter Tryz.func149, Tryz.ntmps149
                go_wp2_with fail
                refine (HLI.out _ HR0.out.rd).mono ?_
                rintro e w1 ⟨rfl, h1, h2⟩
                have HR1 := Lib.hid ((HR0.out.go HLT.out h1 h2).low ((Below.refl _ _).alloc (Nat.le_refl _) zero4))
                clear h1 h2 HLI
                go_wp2_with fail
                refine (HAH.out _ HR1.out.rd).mono ?_
                rintro e w2 ⟨rfl, h1⟩
                have HR2 := Lib.hid (HR1.out.low h1)
                clear h1 HAH
                have hfl := fld1 ak S an
                have HTT := Lib.hid (fun c => HTN.out _ HR2.out.rd c)
                go_wp2_with fail
                refine (HTT.out _).mono ?_
                rintro e w3 ⟨rfl, h1, h2⟩
                have HR3 := Lib.hid (HR2.out.go HLT.out h1 h2)
                clear h1 h2 HTT HTN
                obtain ⟨z0, z1, z2, z3, z4, z5, z6, z7, zf⟩ := HR3.out.cells
                have HFIN := Lib.hid (HR3.out.fin (t := leafT kNow) (X := ⟨⟨#[110, 111, 119]⟩, ⟨0, 0, ⟨#[]⟩, none, 0, 0⟩, ⟨#[]⟩, ⟨#[]⟩, none, 0, 0⟩) H.out (trAt_leaf (op := kNow) (who := []) (name := []) _ (valIs_none _ _) none 0))
                go_wp2_with fail
                exact bodyPost_ret (v := XV.v ⟨⟨#[110, 111, 119]⟩, ⟨0, 0, ⟨#[]⟩, none, 0, 0⟩, ⟨#[]⟩, ⟨#[]⟩, none, 0, 0⟩) (by simp [results, Tryz.results149, go_sem, XV.v, z0, z1, z2, z3, z4, z5, z6, z7]) rfl HFIN.out
              · rw [show st kHas = ⟨#[104, 97, 115]⟩ from rfl] at HTN'
                have HTN := Lib.hid HTN'
                clear HTN'
                rw [if_neg (by decide), if_neg (by decide), if_neg (by decide), if_neg (by decide)]
                have HND := Lib.hid (fun W (hr : Rd I W q) => needs_any I W q hr kPar)
                rw [show st kPar = ⟨#[40]⟩ from rfl] at HND
                have hmn := (adv_needs (T := I.T) kPar q).mono
                obtain ⟨q2, hq2⟩ : ∃ q2, needsP I.T kPar q = q2 := ⟨_, rfl⟩
                rw [hq2] at HND hmn ⊢
                have HCA := Lib.hid (fun W (hr : Rd I W q2) => call_has I W q2 hr)
                have hcp : callP I.T ex kHas q2 = attrP I.T kHas q2 := by unfold callP; rw [if_pos rfl]
                rw [hcp]
                generalize attrP I.T kHas q2 = R at *
                obtain ⟨t, q3⟩ := R
                have HCL := Lib.hid (fun W (hr : Rd I W q3) X => closed_any I W q3 hr X)
                unfold closedP
                dsimp only
                generalize needsP I.T kEnd q3 = q4 at *
                clear HFQ hq1 hcp hq2 hmn
                unfold RI.ptr at *
                dsimp only [Val.v, noVal] at *
                go_enter Tryz.func149, Tryz.ntmps149
                go_wp2_with fail
                refine (HLI.out _ HR0.out.rd).mono ?_
                rintro e w1 ⟨rfl, h1, h2⟩
                have HR1 := Lib.hid ((HR0.out.go HLT.out h1 h2).low ((Below.refl _ _).alloc (Nat.le_refl _) zero4))
                clear h1 h2 HLI
                go_wp2_with fail
                refine (HAH.out _ HR1.out.rd).mono ?_
                rintro e w2 ⟨rfl, h1⟩
                have HR2 := Lib.hid (HR1.out.low h1)
                clear h1 HAH
                have hfl := fld1 ak S an
                have HTT := Lib.hid (fun c => HTN.out _ HR2.out.rd c)
                go_wp2_with fail
                refine (HTT.out _).mono ?_
                rintro e w3 ⟨rfl, h1, h2⟩
                have HR3 := Lib.hid (HR2.out.go HLT.out h1 h2)
                clear h1 h2 HTT HTN
                go_wp2_with fail
                refine (HND.out _ HR3.out.rd).mono ?_
                rintro e w4 ⟨rfl, h1, h2⟩
                have HR4 := Lib.hid (HR3.out.go HLT.out h1 h2)
                clear h1 h2 HND
                go_wp2_with fail
                refine (HCA.out _ HR4.out.rd).mono ?_
                rintro e w5 ⟨X, rfl, ht, h1, h2⟩
                have HR5 := Lib.hid (HR4.out.go HLT.out h1 h2)
                have HT5 := Lib.hid (ht.mono (B' := fun k => w.heap.size + 1 ≤ k) (fun k _ hk => by have := lt_block HR4.out.res; omega))
                have HCX := Lib.hid (fun W hr => HCL.out W hr X)
                clear h1 h2 HCA ht HCL
                unfold XV.v at *
                go_wp2_with fail
                refine (HCX.out _ HR5.out.rd).mono ?_
                rintro e w6 ⟨rfl, h1, h2⟩
                have HR6 := Lib.hid (HR5.out.go HLT.out h1 h2)
                obtain ⟨z0, z1, z2, z3, z4, z5, z6, z7, zf⟩ := HR6.out.cells
                have HFIN := Lib.hid (HR6.out.fin H.out (HT5.out.kept (fun k hk hl => h2.block k hl (by have := HLT.out; omega))))
                clear h1 h2 HCX HT5
                go_wp2_with fail
                exact bodyPost_ret (v := X.v) (by simp [results, Tryz.results149, go_sem, XV.v, z0, z1, z2, z3, z4, z5, z6, z7]) rfl HFIN.out
              · rw [show st kRole = ⟨#[114, 111, 108, 101]⟩ from rfl] at HTN'
                have HTN := Lib.hid HTN'
                clear HTN'
                rw [if_neg (by decide), if_neg (by decide), if_neg (by decide), if_neg (by decide)]
                have HND := Lib.hid (fun W (hr : Rd I W q) => needs_any I W q hr kPar)
                rw [show st kPar = ⟨#[40]⟩ from rfl] at HND
                have hmn := (adv_needs (T := I.T) kPar q).mono
                obtain ⟨q2, hq2⟩ : ∃ q2, needsP I.T kPar q = q2 := ⟨_, rfl⟩
                rw [hq2] at HND hmn ⊢
                have HCA := Lib.hid (fun W (hr : Rd I W q2) => call_role I W q2 hr)
                have hcp : callP I.T ex kRole q2 = (roleT (ownP I.T 3 q2).1, (ownP I.T 3 q2).2) := by unfold callP; rw [if_neg (by decide), if_pos rfl]
                rw [hcp]
                generalize (roleT (ownP I.T 3 q2).1, (ownP I.T 3 q2).2) = R at *
                obtain ⟨t, q3⟩ := R
                have HCL := Lib.hid (fun W (hr : Rd I W q3) X => closed_any I W q3 hr X)
                unfold closedP
                dsimp only
                generalize needsP I.T kEnd q3 = q4 at *
                clear HFQ hq1 hcp hq2 hmn
                unfold RI.ptr at *
                dsimp only [Val.v, noVal] at *
                go_enter Tryz.func149, Tryz.ntmps149
                go_wp2_with fail
                refine (HLI.out _ HR0.out.rd).mono ?_
                rintro e w1 ⟨rfl, h1, h2⟩
                have HR1 := Lib.hid ((HR0.out.go HLT.out h1 h2).low ((Below.refl _ _).alloc (Nat.le_refl _) zero4))
                clear h1 h2 HLI
                go_wp2_with fail
                refine (HAH.out _ HR1.out.rd).mono ?_
                rintro e w2 ⟨rfl, h1⟩
                have HR2 := Lib.hid (HR1.out.low h1)
                clear h1 HAH
                have hfl := fld1 ak S an
                have HTT := Lib.hid (fun c => HTN.out _ HR2.out.rd c)
                go_wp2_with fail
                refine (HTT.out _).mono ?_
                rintro e w3 ⟨rfl, h1, h2⟩
                have HR3 := Lib.hid (HR2.out.go HLT.out h1 h2)
                clear h1 h2 HTT HTN
                go_wp2_with fail
                refine (HND.out _ HR3.out.rd).mono ?_
                rintro e w4 ⟨rfl, h1, h2⟩
                have HR4 := Lib.hid (HR3.out.go HLT.out h1 h2)
                clear h1 h2 HND
                go_wp2_with fail
                refine (HCA.out _ HR4.out.rd).mono ?_
                rintro e w5 ⟨X, rfl, ht, h1, h2⟩
                have HR5 := Lib.hid (HR4.out.go HLT.out h1 h2)
                have HT5 := Lib.hid (ht.mono (B' := fun k => w.heap.size + 1 ≤ k) (fun k _ hk => by have := lt_block HR4.out.res; omega))
                have HCX := Lib.hid (fun W hr => HCL.out W hr X)
                clear h1 h2 HCA ht HCL
                unfold XV.v at *
                go_wp2_with fail
                refine (HCX.out _ HR5.out.rd).mono ?_
                rintro e w6 ⟨rfl, h1, h2⟩
                have HR6 := Lib.hid (HR5.out.go HLT.out h1 h2)
                obtain ⟨z0, z1, z2, z3, z4, z5, z6, z7, zf⟩ := HR6.out.cells
                have HFIN := Lib.hid (HR6.out.fin H.out (HT5.out.kept (fun k hk hl => h2.block k hl (by have := HLT.out; omega))))
                clear h1 h2 HCX HT5
                go_wp2_with fail
                exact bodyPost_ret (v := X.v) (by simp [results, Tryz.results149, go_sem, XV.v, z0, z1, z2, z3, z4, z5, z6, z7]) rfl HFIN.out
              · rw [show st kSize = ⟨#[115, 105, 122, 101]⟩ from rfl] at HTN'
                have HTN := Lib.hid HTN'
                clear HTN'
                rw [if_neg (by decide), if_neg (by decide), if_neg (by decide), if_neg (by decide)]
                have HND := Lib.hid (fun W (hr : Rd I W q) => needs_any I W q hr kPar)
                rw [show st kPar = ⟨#[40]⟩ from rfl] at HND
                have hmn := (adv_needs (T := I.T) kPar q).mono
                obtain ⟨q2, hq2⟩ : ∃ q2, needsP I.T kPar q = q2 := ⟨_, rfl⟩
                rw [hq2] at HND hmn ⊢
                have HCA := Lib.hid (fun W (hr : Rd I W q2) => call_size I W q2 hr ex (fun W hr => HFQ.out W q2 hmn hr))
                have hcp : callP I.T ex kSize q2 = (mk1 kSize (ex q2).1, (ex q2).2) := by unfold callP; rw [if_neg (by decide), if_neg (by decide)]
                rw [hcp]
                generalize (mk1 kSize (ex q2).1, (ex q2).2) = R at *
                obtain ⟨t, q3⟩ := R
                have HCL := Lib.hid (fun W (hr : Rd I W q3) X => closed_any I W q3 hr X)
                unfold closedP
                dsimp only
                generalize needsP I.T kEnd q3 = q4 at *
                clear HFQ hq1 hcp hq2 hmn
                unfold RI.ptr at *
                dsimp only [Val.v, noVal] at *
                go_enter Tryz.func149, Tryz.ntmps149
                go_wp2_with fail
                refine (HLI.out _ HR0.out.rd).mono ?_
                rintro e w1 ⟨rfl, h1, h2⟩
                have HR1 := Lib.hid ((HR0.out.go HLT.out h1 h2).low ((Below.refl _ _).alloc (Nat.le_refl _) zero4))
                clear h1 h2 HLI
                go_wp2_with fail
                refine (HAH.out _ HR1.out.rd).mono ?_
                rintro e w2 ⟨rfl, h1⟩
                have HR2 := Lib.hid (HR1.out.low h1)
                clear h1 HAH
                have hfl := fld1 ak S an
                have HTT := Lib.hid (fun c => HTN.out _ HR2.out.rd c)
                go_wp2_with fail
                refine (HTT.out _).mono ?_
                rintro e w3 ⟨rfl, h1, h2⟩
                have HR3 := Lib.hid (HR2.out.go HLT.out h1 h2)
                clear h1 h2 HTT HTN
                go_wp2_with fail
                refine (HND.out _ HR3.out.rd).mono ?_
                rintro e w4 ⟨rfl, h1, h2⟩
                have HR4 := Lib.hid (HR3.out.go HLT.out h1 h2)
                clear h1 h2 HND
                go_wp2_with fail
                refine (HCA.out _ HR4.out.rd).mono ?_
                rintro e w5 ⟨X, rfl, ht, h1, h2⟩
                have HR5 := Lib.hid (HR4.out.go HLT.out h1 h2)
                have HT5 := Lib.hid (ht.mono (B' := fun k => w.heap.size + 1 ≤ k) (fun k _ hk => by have := lt_block HR4.out.res; omega))
                have HCX := Lib.hid (fun W hr => HCL.out W hr X)
                clear h1 h2 HCA ht HCL
                unfold XV.v at *
                go_wp2_with fail
                refine (HCX.out _ HR5.out.rd).mono ?_
                rintro e w6 ⟨rfl, h1, h2⟩
                have HR6 := Lib.hid (HR5.out.go HLT.out h1 h2)
                obtain ⟨z0, z1, z2, z3, z4, z5, z6, z7, zf⟩ := HR6.out.cells
                have HFIN := Lib.hid (HR6.out.fin H.out (HT5.out.kept (fun k hk hl => h2.block k hl (by have := HLT.out; omega))))
                clear h1 h2 HCX HT5
                go_wp2_with fail
                exact bodyPost_ret (v := X.v) (by simp [results, Tryz.results149, go_sem, XV.v, z0, z1, z2, z3, z4, z5, z6, z7]) rfl HFIN.out
              · rw [show st kOpen = ⟨#[91]⟩ from rfl] at HTN'
                have HTN := Lib.hid HTN'
                clear HTN'
                rw [if_neg (by decide), if_pos rfl]
                have HBG := Lib.hid (fun W (hr : Rd I W q) => rbag_any I W q hr (by omega))
                generalize bagP I.T q = R at *
                obtain ⟨t, q3⟩ := R
                clear HFQ hq1
                unfold RI.ptr at *
                dsimp only [Val.v, noVal] at *
                go_enter Tryz.func149, Tryz.ntmps149
                go_wp2_with fail
                refine (HLI.out _ HR0.out.rd).mono ?_
                rintro e w1 ⟨rfl, h1, h2⟩
                have HR1 := Lib.hid ((HR0.out.go HLT.out h1 h2).low ((Below.refl _ _).alloc (Nat.le_refl _) zero4))
                clear h1 h2 HLI
                go_wp2_with fail
                refine (HAH.out _ HR1.out.rd).mono ?_
                rintro e w2 ⟨rfl, h1⟩
                have HR2 := Lib.hid (HR1.out.low h1)
                clear h1 HAH
                have hfl := fld1 ak S an
                have HTT := Lib.hid (fun c => HTN.out _ HR2.out.rd c)
                go_wp2_with fail
                refine (HTT.out _).mono ?_
                rintro e w3 ⟨rfl, h1, h2⟩
                have HR3 := Lib.hid (HR2.out.go HLT.out h1 h2)
                clear h1 h2 HTT HTN
                go_wp2_with fail
                refine (HBG.out _ HR3.out.rd).mono ?_
                rintro e w4 ⟨X, rfl, ht, h1, h2⟩
                have HR4 := Lib.hid (HR3.out.go HLT.out h1 h2)
                obtain ⟨z0, z1, z2, z3, z4, z5, z6, z7, zf⟩ := HR4.out.cells
                have HFIN := Lib.hid (HR4.out.fin H.out (ht.mono (B' := fun k => w.heap.size + 1 ≤ k) (fun k _ hk => by have := lt_block HR3.out.res; omega)))
                clear h1 h2 ht HBG
                unfold XV.v
                go_wp2_with fail
                exact bodyPost_ret (v := X.v) (by simp [results, Tryz.results149, go_sem, XV.v, z0, z1, z2, z3, z4, z5, z6, z7]) rfl HFIN.out
              · rw [show st kPar = ⟨#[40]⟩ from rfl] at HTN'
                have HTN := Lib.hid HTN'
                clear HTN'
                rw [if_neg (by decide), if_neg (by decide), if_pos rfl]
                have HEX := Lib.hid (fun W (hr : Rd I W q) => HFQ.out W q (Nat.le_refl _) hr)
                generalize ex q = R at *
                obtain ⟨t, q3⟩ := R
                have HCL := Lib.hid (fun W (hr : Rd I W q3) X => closed_any I W q3 hr X)
                unfold closedP
                dsimp only
                generalize needsP I.T kEnd q3 = q4 at *
                clear HFQ hq1
                unfold RI.ptr at *
                dsimp only [Val.v, noVal] at *
                go_enter Tryz.func149, Tryz.ntmps149
                go_wp2_with fail
                refine (HLI.out _ HR0.out.rd).mono ?_
                rintro e w1 ⟨rfl, h1, h2⟩
                have HR1 := Lib.hid ((HR0.out.go HLT.out h1 h2).low ((Below.refl _ _).alloc (Nat.le_refl _) zero4))
                clear h1 h2 HLI
                go_wp2_with fail
                refine (HAH.out _ HR1.out.rd).mono ?_
                rintro e w2 ⟨rfl, h1⟩
                have HR2 := Lib.hid (HR1.out.low h1)
                clear h1 HAH
                have hfl := fld1 ak S an
                have HTT := Lib.hid (fun c => HTN.out _ HR2.out.rd c)
                go_wp2_with fail
                refine (HTT.out _).mono ?_
                rintro e w3 ⟨rfl, h1, h2⟩
                have HR3 := Lib.hid (HR2.out.go HLT.out h1 h2)
                clear h1 h2 HTT HTN
                go_wp2_with fail
                refine (HEX.out _ HR3.out.rd).mono ?_
                rintro e w5 ⟨X, rfl, ht, h1, h2⟩
                have HR5 := Lib.hid (HR3.out.go HLT.out h1 h2)
                have HT5 := Lib.hid (ht.mono (B' := fun k => w.heap.size + 1 ≤ k) (fun k _ hk => by have := lt_block HR3.out.res; omega))
                have HCX := Lib.hid (fun W hr => HCL.out W hr X)
                clear h1 h2 HEX ht HCL
                unfold XV.v at *
                go_wp2_with fail
                refine (HCX.out _ HR5.out.rd).mono ?_
                rintro e w6 ⟨rfl, h1, h2⟩
                have HR6 := Lib.hid (HR5.out.go HLT.out h1 h2)
                obtain ⟨z0, z1, z2, z3, z4, z5, z6, z7, zf⟩ := HR6.out.cells
                have HFIN := Lib.hid (HR6.out.fin H.out (HT5.out.kept (fun k hk hl => h2.block k hl (by have := HLT.out; omega))))
                clear h1 h2 HCX HT5
                go_wp2_with fail
                exact bodyPost_ret (v := X.v) (by simp [results, Tryz.results149, go_sem, XV.v, z0, z1, z2, z3, z4, z5, z6, z7]) rfl HFIN.out
end Go.Proofs.YtllgodaphoncnaaGreatDoor
