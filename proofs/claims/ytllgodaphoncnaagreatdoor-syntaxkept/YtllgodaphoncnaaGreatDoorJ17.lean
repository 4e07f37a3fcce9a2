/- A map from addresses to numbers; A reader's calls: attributes, literals, a bag's items; A reader's calls: literals. -/
import Derived.Test.YtllgodaphoncnaaGreatDoorJ16
import Derived.LaidEqlPtr
namespace Go.Proofs.YtllgodaphoncnaaGreatDoor
open Go.RowKit

section
variable {P : Program} {w : World}
/-- a block of cells that is no string's -/
def PlainB (w : World) (a : Addr) : Prop := ∃ C T, w.heap[a.block]? = some (.cells C T (0, 0))
set_option maxRecDepth 100000 in
theorem run_equal_ptr {tp te : TypeId} {j : TypeInfo} {a b : Addr} (hp : P.underlying tp = some (.pointer te)) (hte : P.info? te = some j) (hsz : j.size ≠ 0) (ha : PlainB w a) (hb : PlainB w b) :
    (Op.equal tp (.pointer (some a)) (.pointer (some b))).run P w = .ok (decide (a = b)) w := by
  by_cases he : a = b
  · subst he
    have h : ∀ d : Nat, (Op.equalIn (d + 1) tp (.pointer (some a)) (.pointer (some a))).run P w = .ok true w := fun d => by
      simp [Op.equalIn, run_underlying hp, sizeOf, typeInfo, hte, run_sameAddr_same]
    simp [Op.equal, Op.maxDepth, h 9999]
  · obtain ⟨ca, ta, ha⟩ := ha
    obtain ⟨cb, tb, hb⟩ := hb
    have h : ∀ d : Nat, (Op.equalIn (d + 1) tp (.pointer (some a)) (.pointer (some b))).run P w = .ok false w := fun d => by
      simp [Op.equalIn, run_underlying hp, sizeOf, typeInfo, hte, hsz, run_sameAddr_other w he ha hb]
    simp [Op.equal, Op.maxDepth, h 9999, he]
def kv (e : MapEntry) : Value × Value := (e.key, e.val)
def kvF (x : Addr × Int) : Value × Value := (.pointer (some x.1), .int .i64 x.2)
/-- the place of an address, and its number -/
def findF (a : Addr) : List (Addr × Int) → Nat → Option (Nat × Int)
  | [], _ => none
  | x :: l, i => if a = x.1 then some (i, x.2) else findF a l (i + 1)
set_option maxRecDepth 100000 in
theorem run_asking {tp te : TypeId} {j : TypeInfo} {a : Addr} (hp : P.underlying tp = some (.pointer te)) (hte : P.info? te = some j) (hsz : j.size ≠ 0) (ha : PlainB w a) :
    ∀ (es : List MapEntry) (F : List (Addr × Int)) (i : Nat), es.map kv = F.map kvF → (∀ x ∈ F, PlainB w x.1) → (Instr.findAsking tp (.pointer (some a)) es i).run P w = .ok ((findF a F i).map fun p => (p.1, .int .i64 p.2)) w
  | [], [], i, _, _ => by simp [Instr.findAsking, findF]
  | [], _ :: _, _, h, _ => by simp at h
  | _ :: _, [], _, h, _ => by simp at h
  | e :: es, x :: F, i, h, hx => by
    simp only [List.map_cons, List.cons.injEq] at h
    obtain ⟨h1, h2⟩ := h
    have hk : e.key = .pointer (some x.1) := congrArg Prod.fst h1
    have hv : e.val = .int .i64 x.2 := congrArg Prod.snd h1
    have he := run_equal_ptr hp hte hsz ha (hx x List.mem_cons_self)
    have ih := run_asking hp hte hsz ha es F (i + 1) h2 (fun y hy => hx y (List.mem_cons_of_mem _ hy))
    unfold Instr.findAsking findF
    rw [hk, hv]
    by_cases hax : a = x.1
    · rw [decide_eq_true hax] at he
      rw [if_pos hax]
      simp only [Sem.run_bind, he, Result.andThen_ok, if_true, Sem.run_pure, Option.map_some]
    · rw [decide_eq_false hax] at he
      rw [if_neg hax]
      simp only [Sem.run_bind, he, Result.andThen_ok, Bool.false_eq_true, if_false, ih]
/-- block M is a map that holds just these -/
structure MapIs (w : World) (M : Nat) (F : List (Addr × Int)) : Prop where
  map : ∃ es clk, w.heap[M]? = some (.map es clk) ∧ es.toList.map kv = F.map kvF
  keys : ∀ x ∈ F, PlainB w x.1
def lookF (a : Addr) (F : List (Addr × Int)) : Int := match findF a F 0 with
  | some p => p.2
  | none => 0
set_option maxRecDepth 100000 in
theorem run_findKey {tp te : TypeId} {j : TypeInfo} {a : Addr} (hp : P.underlying tp = some (.pointer te)) (hte : P.info? te = some j) (hsz : j.size ≠ 0) (ha : PlainB w a) (es : List MapEntry) (F : List (Addr × Int)) (h : es.map kv = F.map kvF) (hx : ∀ x ∈ F, PlainB w x.1) :
    (Instr.findKey tp (.pointer (some a)) es).run P w = .ok ((findF a F 0).map fun p => (p.1, .int .i64 p.2)) w := by
  have hq := run_asking hp hte hsz ha es F 0 h hx
  unfold Instr.findKey
  cases es with
  | nil =>
    cases F with
    | nil => simp [run_underlying hp, Instr.findNow, findF]
    | cons x F => simp at h
  | cons e es =>
    cases F with
    | nil => simp at h
    | cons x F =>
      have hk : e.key = .pointer (some x.1) := by simp only [List.map_cons, List.cons.injEq] at h; exact congrArg Prod.fst h.1
      simp [run_underlying hp, Instr.findNow, Instr.sameNow, hq]
set_option maxRecDepth 100000 in
theorem run_checkPtr {tp te : TypeId} (b : Bool) (x : Option Addr) (hp : P.underlying tp = some (.pointer te)) : (Instr.checkKey b 10000 tp (.pointer x)).run P w = .ok () w := by
  have h : ∀ d : Nat, (Instr.checkKey b (d + 1) tp (.pointer x)).run P w = .ok () w := fun d => by
    unfold Instr.checkKey
    simp only [Sem.run_bind, run_underlying hp, Result.andThen_ok, Sem.run_pure]
  exact h 9999
set_option maxRecDepth 100000 in
theorem run_stays (a : Addr) : (Instr.keyThatStays (.pointer (some a)) (.pointer (some a))).run P w = .ok (.pointer (some a)) w := by
  have h : ∀ d : Nat, Instr.sameBits d (.pointer (some a)) (.pointer (some a)) = true := fun d => by cases d <;> simp [Instr.sameBits]
  unfold Instr.keyThatStays
  rw [h 10000]
  rfl
set_option maxRecDepth 100000 in
theorem run_lookup_ptr {tm tp ti te : TypeId} {j : TypeInfo} {a : Addr} {M : Nat} {F : List (Addr × Int)} (hm : P.underlying tm = some (.map tp ti)) (hp : P.underlying tp = some (.pointer te)) (hte : P.info? te = some j) (hsz : j.size ≠ 0)
    (hz : (zeroValue ti).run P w = .ok (.int .i64 0) w) (ha : PlainB w a) (h : MapIs w M F) : (Instr.lookup tm (.map (some M)) (.pointer (some a)) false).run P w = .ok (.int .i64 (lookF a F)) w := by
  obtain ⟨es, clk, hg, he⟩ := h.map
  have hf := run_findKey hp hte hsz ha es.toList F he h.keys
  unfold Instr.lookup lookF
  cases hff : findF a F 0 with
  | none =>
    rw [hff] at hf
    simp only [Sem.run_bind, run_underlying hm, Result.andThen_ok, MapKept.run_getObj_map hg, Sem.run_pure, run_checkPtr _ _ hp, hf, Option.map_none, hz]
    rfl
  | some p =>
    rw [hff] at hf
    simp only [Sem.run_bind, run_underlying hm, Result.andThen_ok, MapKept.run_getObj_map hg, Sem.run_pure, run_checkPtr _ _ hp, hf, Option.map_some]
    rfl
/-- the map with this number at that address -/
def putF' (a : Addr) (v : Int) (F : List (Addr × Int)) : List (Addr × Int) := match findF a F 0 with
  | some p => F.set p.1 (a, v)
  | none => F ++ [(a, v)]
set_option maxRecDepth 100000 in
theorem findF_at {a : Addr} : ∀ {F : List (Addr × Int)} {i : Nat} {p : Nat × Int}, findF a F i = some p → i ≤ p.1 ∧ F[p.1 - i]? = some (a, p.2)
  | x :: l, i, p, h => by
    unfold findF at h
    by_cases hx : a = x.1
    · rw [if_pos hx] at h
      obtain rfl := Option.some.inj h
      subst hx
      simp
    · rw [if_neg hx] at h
      obtain ⟨h1, h2⟩ := findF_at h
      refine ⟨by omega, ?_⟩
      rw [show p.1 - i = (p.1 - (i + 1)) + 1 by omega, List.getElem?_cons_succ]
      exact h2
set_option maxRecDepth 100000 in
theorem kept_setBlock {w : World} {M : Nat} (o : Obj) : Kept1 M w { w with heap := w.heap.setIfInBounds M o } :=
  ⟨rfl, rfl, rfl, by simp, fun k _ hk => by simp [Ne.symm hk]⟩
set_option maxRecDepth 100000 in
theorem PlainB.kept {w w' : World} {M : Nat} {a : Addr} (h : PlainB w a) (hk : Kept1 M w w') (hM : ∀ C T, w.heap[M]? ≠ some (.cells C T (0, 0))) : PlainB w' a := by
  obtain ⟨C, T, hg⟩ := h
  exact ⟨C, T, (hk.block _ (lt_block hg) (by intro e; rw [e] at hg; exact hM C T hg)).trans hg⟩
set_option maxRecDepth 100000 in
theorem run_update_ptr {tm tp ti te : TypeId} {j : TypeInfo} {a : Addr} {M : Nat} {F : List (Addr × Int)} (v : Int) (hm : P.underlying tm = some (.map tp ti)) (hp : P.underlying tp = some (.pointer te)) (hte : P.info? te = some j) (hsz : j.size ≠ 0)
    (ha : PlainB w a) (h : MapIs w M F) : ∃ w', (Instr.mapUpdate tm (.map (some M)) (.pointer (some a)) (.int .i64 v)).run P w = .ok () w' ∧ Kept1 M w w' ∧ MapIs w' M (putF' a v F) ∧ w'.heap.size = w.heap.size := by
  obtain ⟨es, clk, hg, he⟩ := h.map
  have hf := run_findKey hp hte hsz ha es.toList F he h.keys
  have hM : ∀ C T, w.heap[M]? ≠ some (.cells C T (0, 0)) := fun C T => by rw [hg]; simp
  have hlt := lt_block hg
  cases hff : findF a F 0 with
  | none =>
    rw [hff] at hf
    refine ⟨{ w with heap := w.heap.setIfInBounds M (.map (es.push { key := .pointer (some a), val := .int .i64 v, born := clk }) (clk + 1)) }, ?_, kept_setBlock _, ⟨⟨_, _, by simp [hlt]; exact ⟨rfl, rfl⟩, ?_⟩, ?_⟩, by simp⟩
    · unfold Instr.mapUpdate
      simp only [Sem.run_bind, run_underlying hm, Result.andThen_ok, MapKept.run_getObj_map hg, run_checkPtr _ _ hp, hf, Option.map_none]
      exact MapKept.run_setObj_map _ hg
    · unfold putF'; rw [hff]; simp [kv, kvF, he]
    · unfold putF'; rw [hff]
      intro x hx
      rcases List.mem_append.1 hx with hx | hx
      · exact (h.keys x hx).kept (kept_setBlock _) hM
      · obtain rfl := List.mem_singleton.1 hx
        exact ha.kept (kept_setBlock _) hM
  | some p =>
    rw [hff] at hf
    obtain ⟨-, hpF⟩ := findF_at hff
    rw [Nat.sub_zero] at hpF
    have hpl : p.1 < F.length := by
      rcases Nat.lt_or_ge p.1 F.length with k | k
      · exact k
      · rw [List.getElem?_eq_none k] at hpF; cases hpF
    have hlen : es.size = F.length := by
      have := congrArg List.length he
      simpa using this
    have hek : ∃ e, es[p.1]? = some e ∧ e.key = .pointer (some a) := by
      have h1 := congrArg (·[p.1]?) he
      simp only [List.getElem?_map, hpF, Option.map_some, kvF] at h1
      obtain ⟨e, h2, h3⟩ := Option.map_eq_some_iff.1 h1
      refine ⟨e, by simpa using h2, ?_⟩
      exact congrArg Prod.fst h3
    obtain ⟨e, hee, hkey⟩ := hek
    refine ⟨{ w with heap := w.heap.setIfInBounds M (.map (es.modify p.1 fun e => { e with key := .pointer (some a), val := .int .i64 v }) clk) }, ?_, kept_setBlock _, ⟨⟨_, _, by simp [hlt]; exact ⟨rfl, rfl⟩, ?_⟩, ?_⟩, by simp⟩
    · unfold Instr.mapUpdate
      simp only [Sem.run_bind, run_underlying hm, Result.andThen_ok, MapKept.run_getObj_map hg, run_checkPtr _ _ hp, hf, Option.map_some, hee, Option.getD_some, hkey, run_stays]
      exact MapKept.run_setObj_map _ hg
    · unfold putF'; rw [hff]
      apply List.ext_getElem?
      intro i
      have h1 := congrArg (·[i]?) he
      simp only [List.getElem?_map] at h1
      by_cases hi : i = p.1
      · subst hi
        simp only [List.getElem?_map, Array.getElem?_toList, Array.getElem?_modify, List.getElem?_set, hpl, if_true]
        rw [hee]
        simp [kv, kvF]
      · simp only [List.getElem?_map, Array.getElem?_toList, Array.getElem?_modify, List.getElem?_set, if_neg (Ne.symm hi)]
        simpa using h1
    · unfold putF'; rw [hff]
      intro x hx
      rcases List.mem_or_eq_of_mem_set hx with hx | rfl
      · exact (h.keys x hx).kept (kept_setBlock _) hM
      · exact ha.kept (kept_setBlock _) hM
end
end Go.Proofs.YtllgodaphoncnaaGreatDoor
namespace Go.Proofs.YtllgodaphoncnaaGreatDoor
open Go.RowKit

set_option maxRecDepth 100000 in
theorem strsAt_new {W : World} {g : Nat} {l : List (List UInt8)} {T : TypeId} {fr : Nat × Nat} (h : W.heap[g]? = some (.cells (l.map fun s => Value.string (st s)).toArray T fr)) : StrsAt W (some ⟨g, 0, none⟩) g 0 l := by
  refine ⟨fun _ => rfl, fun i hi j hj => ?_⟩
  obtain rfl : j = 0 := by omega
  simp only [Nat.mul_one, Nat.zero_add, Nat.add_zero]
  rw [cell_block h]
  simp [List.getElem?_eq_getElem hi]
set_option maxRecDepth 100000 in
/-- one of these words, which lie in a new block -/
theorem takesNew_any (I : RI) (w : World) (p : PS) (h : Rd I w p) (l : List (List UInt8)) (n : Nat) (hn : l.length = n) (h100 : n ≤ 100) (T : TypeId) (fr : Nat × Nat) (cs : Array Value) (hcs : cs = (l.map fun s => Value.string (st s)).toArray) (c : Nat) :
    Calls Tryz.prog 87 #[I.ptr, .slice (some ⟨w.heap.size, 0, none⟩) n c] (w.alloc (.cells cs T fr)) fun e w' => e = .returned (.string (st (takesOneP I.T l p).1)) ∧ Rd I w' (takesOneP I.T l p).2 ∧ Kept1 I.b w w' := by
  subst hn
  have hb : Below w.heap.size w (w.alloc (.cells cs T fr)) := (Below.refl _ _).alloc (Nat.le_refl _) _
  have hg : (w.alloc (.cells cs T fr)).heap[w.heap.size]? = some (.cells (l.map fun s => Value.string (st s)).toArray T fr) := by rw [← hcs]; exact heap_alloc_new _ _
  exact (takesOne_any I _ p (h.below hb) _ _ _ c l (strsAt_new hg) h100 (fun _ => by have := h.lt; omega)).mono fun e w' ⟨h1, h2, h3⟩ => ⟨h1, h2, (Kept1.of_below hb).trans h3⟩
set_option maxRecDepth 100000 in
set_option maxHeartbeats 2000000 in
theorem attribute_any (I : RI) (w : World) (p : PS) (h : Rd I w p) :
    Calls Tryz.prog 96 #[I.ptr] w fun e w' => e = .returned (.tuple #[.string (st (attributeP I.T p).1.1), .string (st (attributeP I.T p).1.2)]) ∧ Rd I w' (attributeP I.T p).2 ∧ Kept1 I.b w w' := by
  have HT := Lib.hid (fun c => takesNew_any I w p h whoL 4 rfl (by omega) 9 (0, 0) _ rfl c)
  have HST := Lib.hid (fun W q (hr : Rd I W q) => stop_any I W q hr)
  have HND := Lib.hid (fun W q (hr : Rd I W q) => needs_any I W q hr kDot)
  have HNM := Lib.hid (fun W q (hr : Rd I W q) => name_any I W q hr)
  clear h
  unfold attributeP attrTail
  unfold RI.ptr at *
  obtain ⟨o, ho⟩ : ∃ o, takesOneP I.T whoL p = o := ⟨_, rfl⟩
  rw [ho] at HT ⊢
  clear ho
  obtain ⟨ow, q⟩ := o
  dsimp only at HT ⊢
  have eo := toList_st ow
  obtain ⟨q', hq'⟩ : ∃ q', (if ow = [] then stopP q else q) = q' := ⟨_, rfl⟩
  rw [hq']
  have HQ' := Lib.hid hq'
  clear hq'
  obtain ⟨S, hS⟩ : ∃ S, st ow = S := ⟨_, rfl⟩
  rw [hS] at eo HT ⊢
  clear hS
  go_enter Tryz.func96, Tryz.ntmps96
  go_wp2_with fail
  refine (HT.out _).mono ?_
  rintro e w1 ⟨rfl, h1, h2⟩
  have H1 := Lib.hid h1
  have H2 := Lib.hid h2
  clear h1 h2 HT
  by_cases hw : ow = []
  · have hq : (ow == []) = true := by rw [hw]; rfl
    obtain rfl : stopP q = q' := by rw [← HQ'.out, if_pos hw]
    clear HQ'
    go_wp2_with fail
    refine (HST.out _ _ H1.out).mono ?_
    rintro e w2 ⟨rfl, h1, h2⟩
    have H3 := Lib.hid h1
    have H4 := Lib.hid (H2.out.trans h2)
    clear h1 h2 HST
    go_wp2_with fail
    refine (HND.out _ _ H3.out).mono ?_
    rintro e w3 ⟨rfl, h1, h2⟩
    have H5 := Lib.hid h1
    have H6 := Lib.hid (H4.out.trans h2)
    clear h1 h2 HND
    go_wp2_with fail
    refine (HNM.out _ _ H5.out).mono ?_
    rintro e w4 ⟨rfl, h1, h2⟩
    have H7 := Lib.hid h1
    have H8 := Lib.hid (H6.out.trans h2)
    clear h1 h2 HNM
    go_wp2_with fail
    go_ret2
    exact ⟨rfl, H7.out, H8.out⟩
  · have hq : (ow == []) = false := by simpa using hw
    obtain rfl : q = q' := by rw [← HQ'.out, if_neg hw]
    clear HQ'
    go_wp2_with fail
    refine (HND.out _ _ H1.out).mono ?_
    rintro e w3 ⟨rfl, h1, h2⟩
    have H5 := Lib.hid h1
    have H6 := Lib.hid (H2.out.trans h2)
    clear h1 h2 HND
    go_wp2_with fail
    refine (HNM.out _ _ H5.out).mono ?_
    rintro e w4 ⟨rfl, h1, h2⟩
    have H7 := Lib.hid h1
    have H8 := Lib.hid (H6.out.trans h2)
    clear h1 h2 HNM
    go_wp2_with fail
    go_ret2
    exact ⟨rfl, H7.out, H8.out⟩
set_option maxRecDepth 100000 in
set_option maxHeartbeats 1000000 in
theorem attr_any (I : RI) (w : World) (p : PS) (h : Rd I w p) (op : List UInt8) :
    Calls Tryz.prog 152 #[I.ptr, .string (st op)] w (PostT I w (attrP I.T op p)) := by
  have HA := Lib.hid (fun W (hb : Below w.heap.size w W) => attribute_any I W p (h.below hb))
  have hlt := h.lt
  have HLT := Lib.hid hlt
  have H := Lib.hid h
  clear h hlt
  unfold attrP
  obtain ⟨o, ho⟩ : ∃ o, attributeP I.T p = o := ⟨_, rfl⟩
  rw [ho] at HA ⊢
  clear ho
  obtain ⟨⟨ow, on⟩, q⟩ := o
  dsimp only at HA ⊢
  obtain ⟨S, hS⟩ : ∃ S, st op = S := ⟨_, rfl⟩
  rw [hS]
  have HS := Lib.hid hS
  clear hS
  unfold RI.ptr at *
  go_enter Tryz.func152, Tryz.ntmps152
  go_wp2_with fail
  have hb0 : Below w.heap.size w (w.alloc (.cells #[.string ⟨#[]⟩, .int .i64 0, .int .i64 0, .string ⟨#[]⟩, .slice none 0 0, .string ⟨#[]⟩, .string ⟨#[]⟩, .slice none 0 0] 27)) := (Below.refl _ _).alloc (Nat.le_refl _) _
  refine (HA.out _ hb0).mono ?_
  rintro e w1 ⟨rfl, h1, h2⟩
  have g1 : w1.heap[w.heap.size]? = some (.cells #[.string ⟨#[]⟩, .int .i64 0, .int .i64 0, .string ⟨#[]⟩, .slice none 0 0, .string ⟨#[]⟩, .string ⟨#[]⟩, .slice none 0 0] 27 (0, 0)) := by
    rw [h2.block _ (by simp) (by have := HLT.out; omega)]; exact heap_alloc_new _ _
  have H1 := Lib.hid h1
  have H2 := Lib.hid ((Kept1.of_below hb0).trans h2)
  have g0 := HLT.out
  have hne : w.heap.size ≠ I.b := by omega
  clear h1 h2 hb0 HA
  have x0 := cell_block g1 0
  have x1 := cell_block g1 1
  have x2 := cell_block g1 2
  have x3 := cell_block g1 3
  have x4 := cell_block g1 4
  have x5 := cell_block g1 5
  have x6 := cell_block g1 6
  have x7 := cell_block g1 7
  have xf : ∀ o, w1.frozen? ⟨w.heap.size, o, none⟩ = false := fun o => by simp [World.frozen?, g1]
  simp only [List.getElem?_toArray, List.getElem?_cons_zero, List.getElem?_cons_succ] at x0 x1 x2 x3 x4 x5 x6 x7
  go_wp2_with fail
  exact bodyPost_ret (v := XV.v ⟨S, ⟨0, 0, ⟨#[]⟩, none, 0, 0⟩, st ow, st on, none, 0, 0⟩) (by simp [results, Tryz.results152, go_sem, XV.v, x0, x1, x2, x3, x4, x5, x6, x7]) rfl
    (fin8 (N := w.heap.size + 1) H.out (by rw [← HS.out]; exact trAt_leaf _ (valIs_none _ _) none 0) H1.out H2.out (Nat.le_refl _) (Nat.lt_succ_self _) (kept_set8 _ _ _ _ _ _ _ _ _))
end Go.Proofs.YtllgodaphoncnaaGreatDoor
namespace Go.Proofs.YtllgodaphoncnaaGreatDoor
open Go.RowKit

def literalP (T : List Tk) (p : PS) : (Val × Bool) × PS := match litP (aheadP T p) with
  | some v => ((v, true), passP p)
  | none => ((noVal, false), p)
set_option maxRecDepth 100000 in
theorem text_short (s : ByteArray) (hs : s.size ≤ 64) (w : World) :
    Calls Tryz.prog 158 #[.string s] w fun e w' => e = .returned (V 3 0 s none 0 0) ∧ Below w.heap.size w w' := by
  have h := text_any s (by unfold maxLen; omega) w
  rw [show min s.size 64 = s.size by omega, ByteArray.extract_zero_size] at h
  exact h
set_option maxRecDepth 100000 in
theorem heap_set4 {w : World} {g : Nat} {y0 y1 y2 y3 : Value} {T : TypeId} (h : w.heap[g]? = some (.cells #[y0, y1, y2, y3] T (0, 0))) (x0 x1 x2 x3 : Value) :
    ((((w.setCell ⟨g, 0, none⟩ x0).setCell ⟨g, 1, none⟩ x1).setCell ⟨g, 2, none⟩ x2).setCell ⟨g, 3, none⟩ x3).heap[g]? = some (.cells #[x0, x1, x2, x3] T (0, 0)) := by
  have h0 := heap_setCell_same w g 0 _ T x0 h
  have h1 := heap_setCell_same _ g 1 _ T x1 h0
  have h2 := heap_setCell_same _ g 2 _ T x2 h1
  have h3 := heap_setCell_same _ g 3 _ T x3 h2
  simpa using h3
set_option maxRecDepth 100000 in
theorem kept_set4 {w : World} (g : Nat) (x0 x1 x2 x3 : Value) :
    Kept1 g w ((((w.setCell ⟨g, 0, none⟩ x0).setCell ⟨g, 1, none⟩ x1).setCell ⟨g, 2, none⟩ x2).setCell ⟨g, 3, none⟩ x3) :=
  Kept1.setCell (p := ⟨g, 3, none⟩) (hp := .inl rfl) (u := x3) <| Kept1.setCell (p := ⟨g, 2, none⟩) (hp := .inl rfl) (u := x2) <| Kept1.setCell (p := ⟨g, 1, none⟩) (hp := .inl rfl) (u := x1) <| Kept1.setCell (p := ⟨g, 0, none⟩) (hp := .inl rfl) (u := x0) <| Kept1.refl g w
set_option maxRecDepth 100000 in
/-- a reader, where other blocks may have been turned that were new -/
theorem Rd.across {I : RI} {w w1 W : World} {p q : PS} {g : Nat} (h : Rd I w p) (hr : Rd I w1 q) (hk : Kept1 I.b w w1) (hW : Kept1 g w1 W) (hg : w.heap.size ≤ g) : Rd I W q ∧ Kept1 I.b w W := by
  have hlt := h.lt
  have hkW := hk.across hW hg
  exact ⟨h.kept hkW ((hW.block I.b (by have := hr.lt; omega) (by omega)).trans hr.blk) hr.at' hr.err, hkW⟩
abbrev set4 (w : World) (g : Nat) (x0 x1 x2 x3 : Value) : World := (((w.setCell ⟨g, 0, none⟩ x0).setCell ⟨g, 1, none⟩ x1).setCell ⟨g, 2, none⟩ x2).setCell ⟨g, 3, none⟩ x3
abbrev zero4 : Obj := .cells #[.int .i64 0, .int .i64 0, .string ⟨#[]⟩, .slice none 0 0] 24 (0, 0)
/-- a value's block, with the result's own beside it -/
structure LitW (I : RI) (w W : World) (p : PS) (gV : Nat) : Prop where
  h0 : Rd I w p
  rd : Rd I W p
  kept : Kept1 I.b w W
  res : W.heap[w.heap.size]? = some zero4
  val : W.heap[gV]? = some zero4
  ne : w.heap.size < gV
set_option maxRecDepth 100000 in
theorem LitW.low {I : RI} {w W W' : World} {p : PS} {gV : Nat} (h : LitW I w W p gV) (hb : Below W.heap.size W W') : LitW I w W' p gV :=
  ⟨h.h0, h.rd.below hb, h.kept.trans (.of_below hb), (hb.block _ (lt_block h.res)).trans h.res, (hb.block _ (lt_block h.val)).trans h.val, h.ne⟩
set_option maxRecDepth 100000 in
theorem LitW.cells {I : RI} {w W : World} {p : PS} {gV : Nat} (h : LitW I w W p gV) :
    (W.cell? ⟨gV, 0, none⟩ = some (.int .i64 0) ∧ W.cell? ⟨gV, 1, none⟩ = some (.int .i64 0) ∧ W.cell? ⟨gV, 2, none⟩ = some (.string ⟨#[]⟩) ∧ W.cell? ⟨gV, 3, none⟩ = some (.slice none 0 0)) ∧
    (W.cell? ⟨w.heap.size, 0, none⟩ = some (.int .i64 0) ∧ W.cell? ⟨w.heap.size, 1, none⟩ = some (.int .i64 0) ∧ W.cell? ⟨w.heap.size, 2, none⟩ = some (.string ⟨#[]⟩) ∧ W.cell? ⟨w.heap.size, 3, none⟩ = some (.slice none 0 0)) ∧
    (∀ o, W.frozen? ⟨gV, o, none⟩ = false) ∧ (∀ o, W.frozen? ⟨w.heap.size, o, none⟩ = false) :=
  ⟨⟨cell_block h.val 0, cell_block h.val 1, cell_block h.val 2, cell_block h.val 3⟩, ⟨cell_block h.res 0, cell_block h.res 1, cell_block h.res 2, cell_block h.res 3⟩, fun o => by simp [World.frozen?, h.val], fun o => by simp [World.frozen?, h.res]⟩
set_option maxRecDepth 100000 in
theorem LitW.set {I : RI} {w W : World} {p : PS} {gV : Nat} (h : LitW I w W p gV) (x0 x1 x2 x3 : Value) :
    Rd I (set4 W gV x0 x1 x2 x3) p ∧ ∀ w4 q, Rd I w4 q → Kept1 I.b (set4 W gV x0 x1 x2 x3) w4 →
      (w4.cell? ⟨gV, 0, none⟩ = some x0 ∧ w4.cell? ⟨gV, 1, none⟩ = some x1 ∧ w4.cell? ⟨gV, 2, none⟩ = some x2 ∧ w4.cell? ⟨gV, 3, none⟩ = some x3) ∧
      (w4.cell? ⟨w.heap.size, 0, none⟩ = some (.int .i64 0) ∧ w4.cell? ⟨w.heap.size, 1, none⟩ = some (.int .i64 0) ∧ w4.cell? ⟨w.heap.size, 2, none⟩ = some (.string ⟨#[]⟩) ∧ w4.cell? ⟨w.heap.size, 3, none⟩ = some (.slice none 0 0)) ∧
      (∀ o, w4.frozen? ⟨w.heap.size, o, none⟩ = false) ∧ ∀ y0 y1 y2 y3, Rd I (set4 w4 w.heap.size y0 y1 y2 y3) q ∧ Kept1 I.b w (set4 w4 w.heap.size y0 y1 y2 y3) := by
  have hlt := h.h0.lt
  obtain ⟨r1, k1⟩ := h.h0.across h.rd h.kept (kept_set4 (w := W) gV x0 x1 x2 x3) (Nat.le_of_lt h.ne)
  refine ⟨r1, fun w4 q hq hk => ?_⟩
  have hsz : (set4 W gV x0 x1 x2 x3).heap.size = W.heap.size := by simp [World.setCell]
  have gv : w4.heap[gV]? = some (.cells #[x0, x1, x2, x3] 24 (0, 0)) := by
    rw [hk.block gV (by rw [hsz]; exact lt_block h.val) (by have := h.ne; omega)]
    exact heap_set4 h.val _ _ _ _
  have gr : w4.heap[w.heap.size]? = some zero4 := by
    rw [hk.block _ (by rw [hsz]; exact lt_block h.res) (by omega), (kept_set4 (w := W) gV x0 x1 x2 x3).block _ (lt_block h.res) (by have := h.ne; omega)]
    exact h.res
  refine ⟨⟨cell_block gv 0, cell_block gv 1, cell_block gv 2, cell_block gv 3⟩, ⟨cell_block gr 0, cell_block gr 1, cell_block gr 2, cell_block gr 3⟩, fun o => by simp [World.frozen?, gr], fun y0 y1 y2 y3 => ?_⟩
  exact h.h0.across hq (k1.trans hk) (kept_set4 (w := w4) w.heap.size y0 y1 y2 y3) (Nat.le_refl _)
set_option maxRecDepth 100000 in
theorem litW_new {I : RI} {w w1 : World} {p : PS} (h : Rd I w p) (hb : Below (w.alloc zero4).heap.size (w.alloc zero4) w1) (o : Obj) : LitW I w ((w1.alloc o).alloc zero4) p (w1.heap.size + 1) := by
  have hb0 : Below w.heap.size w (w.alloc zero4) := (Below.refl _ _).alloc (Nat.le_refl _) _
  have hb1 : Below w.heap.size w w1 := hb0.trans (hb.mono hb0.size)
  have hb2 : Below w1.heap.size w1 ((w1.alloc o).alloc zero4) := ((Below.refl _ _).alloc (Nat.le_refl _) _).alloc (by simp) _
  have hb3 := hb1.trans (hb2.mono hb1.size)
  have hs : w.heap.size < w1.heap.size := by have := hb.size; simp at this; omega
  refine ⟨h, h.below hb3, .of_below hb3, ?_, ?_, by omega⟩
  · rw [hb2.block _ hs, hb.block _ (by simp)]; exact heap_alloc_new _ _
  · have := heap_alloc_new (w1.alloc o) zero4
    rwa [World.size_alloc] at this
set_option maxRecDepth 100000 in
theorem res_old {w w1 : World} (hb : Below (w.alloc zero4).heap.size (w.alloc zero4) w1) : w1.cell? ⟨w.heap.size, 0, none⟩ = some (.int .i64 0) ∧ w1.cell? ⟨w.heap.size, 1, none⟩ = some (.int .i64 0) ∧ w1.cell? ⟨w.heap.size, 2, none⟩ = some (.string ⟨#[]⟩) ∧ w1.cell? ⟨w.heap.size, 3, none⟩ = some (.slice none 0 0) ∧
    (∀ o, w1.frozen? ⟨w.heap.size, o, none⟩ = false) ∧ w.heap.size < w1.heap.size ∧ ¬ w.heap.size = w1.heap.size ∧ ¬ w.heap.size = w1.heap.size + 1 := by
  have hs : w.heap.size < w1.heap.size := by have := hb.size; simp at this; omega
  have g : w1.heap[w.heap.size]? = some zero4 := by rw [hb.block _ (by simp)]; exact heap_alloc_new _ _
  exact ⟨cell_block g 0, cell_block g 1, cell_block g 2, cell_block g 3, fun o => by simp [World.frozen?, g], hs, by omega, by omega⟩
set_option maxRecDepth 100000 in
theorem none_end {I : RI} {w w1 : World} {p : PS} (h : Rd I w p) (hb : Below (w.alloc zero4).heap.size (w.alloc zero4) w1) (o1 o2 : Obj) :
    (((set4 w1 w.heap.size (.int .i64 0) (.int .i64 0) (.string ⟨#[]⟩) (.slice none 0 0)).alloc o1).alloc o2).cell? ⟨w.heap.size, 0, none⟩ = some (.int .i64 0) ∧ (((set4 w1 w.heap.size (.int .i64 0) (.int .i64 0) (.string ⟨#[]⟩) (.slice none 0 0)).alloc o1).alloc o2).cell? ⟨w.heap.size, 1, none⟩ = some (.int .i64 0) ∧
    (((set4 w1 w.heap.size (.int .i64 0) (.int .i64 0) (.string ⟨#[]⟩) (.slice none 0 0)).alloc o1).alloc o2).cell? ⟨w.heap.size, 2, none⟩ = some (.string ⟨#[]⟩) ∧ (((set4 w1 w.heap.size (.int .i64 0) (.int .i64 0) (.string ⟨#[]⟩) (.slice none 0 0)).alloc o1).alloc o2).cell? ⟨w.heap.size, 3, none⟩ = some (.slice none 0 0) ∧
    Rd I (((set4 w1 w.heap.size (.int .i64 0) (.int .i64 0) (.string ⟨#[]⟩) (.slice none 0 0)).alloc o1).alloc o2) p ∧ Kept1 I.b w (((set4 w1 w.heap.size (.int .i64 0) (.int .i64 0) (.string ⟨#[]⟩) (.slice none 0 0)).alloc o1).alloc o2) := by
  have hb0 : Below w.heap.size w (w.alloc zero4) := (Below.refl _ _).alloc (Nat.le_refl _) _
  have hb1 : Below w.heap.size w w1 := hb0.trans (hb.mono hb0.size)
  have g : w1.heap[w.heap.size]? = some zero4 := by rw [hb.block _ (by simp)]; exact heap_alloc_new _ _
  have gs := heap_set4 g (.int .i64 0) (.int .i64 0) (.string ⟨#[]⟩) (.slice none 0 0)
  obtain ⟨r1, k1⟩ := h.across (h.below hb1) (.of_below hb1) (kept_set4 (w := w1) w.heap.size (.int .i64 0) (.int .i64 0) (.string ⟨#[]⟩) (.slice none 0 0)) (Nat.le_refl _)
  unfold set4
  generalize World.setCell _ _ _ = W at *
  have hbW : Below W.heap.size W ((W.alloc o1).alloc o2) := ((Below.refl _ _).alloc (Nat.le_refl _) _).alloc (by simp) _
  have gF := (hbW.block _ (lt_block gs)).trans gs
  exact ⟨cell_block gF 0, cell_block gF 1, cell_block gF 2, cell_block gF 3, r1.below hbW, k1.trans (.of_below hbW)⟩
set_option maxRecDepth 100000 in
theorem alloc_set4 (w1 : World) (o : Obj) (x0 x1 x2 x3 : Value) : set4 ((w1.alloc o).alloc zero4) (w1.heap.size + 1) x0 x1 x2 x3 = (w1.alloc o).alloc (.cells #[x0, x1, x2, x3] 24 (0, 0)) := by
  simp [set4, go_sem]
set_option maxRecDepth 100000 in
set_option maxHeartbeats 4000000 in
theorem literal_any (I : RI) (w : World) (p : PS) (h : Rd I w p) :
    Calls Tryz.prog 151 #[I.ptr] w fun e w' => e = .returned (.tuple #[(literalP I.T p).1.1.v, .bool (literalP I.T p).1.2]) ∧ Rd I w' (literalP I.T p).2 ∧ Kept1 I.b w w' := by
  have HA := Lib.hid (fun W (hr : Rd I W p) => ahead_any I W p hr)
  have HP := Lib.hid (fun (hk : (aheadP I.T p).k ≠ 0) W (hr : Rd I W p) => pass_any I W p hr (ahead_ne hk).2.1)
  have hsh := ahead_short I.T p
  have H := Lib.hid h
  have hlt := h.lt
  have HLT := Lib.hid hlt
  clear h hlt
  unfold literalP
  obtain ⟨t, ht⟩ : ∃ t, aheadP I.T p = t := ⟨_, rfl⟩
  rw [ht] at HA HP hsh ⊢
  clear ht
  obtain ⟨tk, ts, tn⟩ := t
  rw [tok_val] at HA
  unfold RI.ptr at *
  dsimp only at *
  have HC := Lib.hid (fun W => clone_st W ts (by omega))
  have hsz := size_st ts
  obtain ⟨S, hS⟩ : ∃ S, st ts = S := ⟨_, rfl⟩
  have HS := Lib.hid hS
  have es := toList_st ts
  rw [hS] at HA HC hsz es
  have HSZ := Lib.hid hsz
  have hss : S.size ≤ 64 := by omega
  have HT := Lib.hid (fun W => text_short S hss W)
  clear hS hsh hsz hss
  have hb0 : Below w.heap.size w (w.alloc (.cells #[.int .i64 0, .int .i64 0, .string ⟨#[]⟩, .slice none 0 0] 24)) := (Below.refl _ _).alloc (Nat.le_refl _) _
  have HB0 := Lib.hid hb0
  clear hb0
  by_cases h2 : tk = 2
  · subst h2
    have e : litP ⟨2, ts, tn⟩ = some ⟨2, tn, ⟨#[]⟩, none, 0, 0⟩ := rfl
    rw [e]
    clear e HC HT
    dsimp only [Val.v]
    go_enter Tryz.func151, Tryz.ntmps151
    go_wp2_with fail
    refine (HA.out _ (H.out.below HB0.out)).mono ?_
    rintro e w1 ⟨rfl, h1⟩
    have hlw := litW_new H.out h1 (.cells #[.int .i64 2, .string S, .int .i64 tn] 41 (0, 0))
    have HLW := Lib.hid hlw
    have H1 := Lib.hid h1
    clear h1 hlw HA
    go_wp2_with fail
    refine (number_any tn _).mono ?_
    rintro e w2 ⟨rfl, h2⟩
    have HLW := Lib.hid (HLW.out.low h2)
    clear h2
    obtain ⟨⟨x0, x1, x2, x3⟩, -, xf, -⟩ := HLW.out.cells
    go_wp2_with fail
    clear x0 x1 x2 x3 xf
    obtain ⟨r1, HH⟩ := HLW.out.set (.int .i64 2) (.int .i64 tn) (.string ⟨#[]⟩) (.slice none 0 0)
    refine (HP.out (by decide) _ r1).mono ?_
    rintro e w3 ⟨rfl, h3, h4⟩
    obtain ⟨⟨y0, y1, y2, y3⟩, ⟨z0, z1, z2, z3⟩, zf, HE⟩ := HH w3 _ h3 h4
    have HEE := Lib.hid HE
    clear HH HE r1 h3 h4 HP HLW
    go_wp2_with fail
    exact bodyPost_ret (v := .tuple #[V 2 tn ⟨#[]⟩ none 0 0, .bool true]) (by simp [results, Tryz.results151, go_sem, V, z0, z1, z2, z3]) rfl ⟨rfl, HEE.out _ _ _ _⟩
  have k2 : (tk == 2) = false := by simpa using h2
  by_cases h3 : tk = 3
  · subst h3
    have e : litP ⟨3, ts, tn⟩ = some ⟨3, 0, st ts, none, 0, 0⟩ := rfl
    rw [e, HS.out]
    clear e
    dsimp only [Val.v]
    go_enter Tryz.func151, Tryz.ntmps151
    go_wp2_with fail
    refine (HA.out _ (H.out.below HB0.out)).mono ?_
    rintro e w1 ⟨rfl, h1⟩
    have hlw := litW_new H.out h1 (.cells #[.int .i64 3, .string S, .int .i64 tn] 41 (0, 0))
    have HLW := Lib.hid hlw
    have H1 := Lib.hid h1
    clear h1 hlw HA
    go_wp2_with fail
    refine (HC.out _).mono ?_
    rintro e w2 ⟨rfl, h2⟩
    have HLW := Lib.hid (HLW.out.low h2)
    clear h2
    go_wp2_with fail
    refine (HT.out _).mono ?_
    rintro e w2 ⟨rfl, h2⟩
    have HLW := Lib.hid (HLW.out.low h2)
    clear h2
    obtain ⟨⟨x0, x1, x2, x3⟩, -, xf, -⟩ := HLW.out.cells
    go_wp2_with fail
    clear x0 x1 x2 x3 xf
    obtain ⟨r1, HH⟩ := HLW.out.set (.int .i64 3) (.int .i64 0) (.string S) (.slice none 0 0)
    refine (HP.out (by decide) _ r1).mono ?_
    rintro e w3 ⟨rfl, h3, h4⟩
    obtain ⟨⟨y0, y1, y2, y3⟩, ⟨z0, z1, z2, z3⟩, zf, HE⟩ := HH w3 _ h3 h4
    have HEE := Lib.hid HE
    clear HH HE r1 h3 h4 HP HLW
    go_wp2_with fail
    exact bodyPost_ret (v := .tuple #[V 3 0 S none 0 0, .bool true]) (by simp [results, Tryz.results151, go_sem, V, z0, z1, z2, z3]) rfl ⟨rfl, HEE.out _ _ _ _⟩
  have k3 : (tk == 3) = false := by simpa using h3
  clear HC HT
  by_cases h4 : tk = 4
  · subst h4
    have e : litP ⟨4, ts, tn⟩ = some ⟨4, tn, ⟨#[]⟩, none, 0, 0⟩ := rfl
    rw [e]
    clear e
    dsimp only [Val.v]
    go_enter Tryz.func151, Tryz.ntmps151
    go_wp2_with fail
    refine (HA.out _ (H.out.below HB0.out)).mono ?_
    rintro e w1 ⟨rfl, h1⟩
    have hlw := litW_new H.out h1 (.cells #[.int .i64 4, .string S, .int .i64 tn] 41 (0, 0))
    have HLW := Lib.hid hlw
    have H1 := Lib.hid h1
    clear h1 hlw HA
    go_wp2_with fail
    obtain ⟨r1, HH⟩ := HLW.out.set (.int .i64 4) (.int .i64 tn) (.string ⟨#[]⟩) (.slice none 0 0)
    rw [alloc_set4] at r1 HH
    refine (HP.out (by decide) _ r1).mono ?_
    rintro e w3 ⟨rfl, h3, h4⟩
    obtain ⟨⟨y0, y1, y2, y3⟩, ⟨z0, z1, z2, z3⟩, zf, HE⟩ := HH w3 _ h3 h4
    have HEE := Lib.hid HE
    clear HH HE r1 h3 h4 HP HLW
    go_wp2_with fail
    exact bodyPost_ret (v := .tuple #[V 4 tn ⟨#[]⟩ none 0 0, .bool true]) (by simp [results, Tryz.results151, go_sem, V, z0, z1, z2, z3]) rfl ⟨rfl, HEE.out _ _ _ _⟩
  have k4 : (tk == 4) = false := by simpa using h4
  by_cases h1 : tk = 1
  · subst h1
    by_cases ht : ts = kTrue
    · have e : litP ⟨1, ts, tn⟩ = some ⟨1, 1, ⟨#[]⟩, none, 0, 0⟩ := by rw [ht]; rfl
      rw [e]
      have qt : (ts == [116, 114, 117, 101]) = true := by rw [ht]; rfl
      have HTR := Lib.hid (fun W => truth_any true W)
      clear e ht
      dsimp only [Val.v]
      go_enter Tryz.func151, Tryz.ntmps151
      go_wp2_with fail
      refine (HA.out _ (H.out.below HB0.out)).mono ?_
      rintro e w1 ⟨rfl, h1⟩
      have hlw := litW_new H.out h1 (.cells #[.int .i64 1, .string S, .int .i64 tn] 41 (0, 0))
      have HLW := Lib.hid hlw
      have H1 := Lib.hid h1
      clear h1 hlw HA
      go_wp2_with fail
      refine (HTR.out _).mono ?_
      rintro e w2 ⟨rfl, h2⟩
      have HLW := Lib.hid (HLW.out.low h2)
      clear h2
      obtain ⟨⟨x0, x1, x2, x3⟩, -, xf, -⟩ := HLW.out.cells
      go_wp2_with fail
      clear x0 x1 x2 x3 xf
      obtain ⟨r1, HH⟩ := HLW.out.set (.int .i64 1) (.int .i64 1) (.string ⟨#[]⟩) (.slice none 0 0)
      refine (HP.out (by decide) _ r1).mono ?_
      rintro e w3 ⟨rfl, h3, h4⟩
      obtain ⟨⟨y0, y1, y2, y3⟩, ⟨z0, z1, z2, z3⟩, zf, HE⟩ := HH w3 _ h3 h4
      have HEE := Lib.hid HE
      clear HH HE r1 h3 h4 HP HLW
      go_wp2_with fail
      exact bodyPost_ret (v := .tuple #[V 1 1 ⟨#[]⟩ none 0 0, .bool true]) (by simp [results, Tryz.results151, go_sem, V, z0, z1, z2, z3]) rfl ⟨rfl, HEE.out _ _ _ _⟩
    · have qt : (ts == [116, 114, 117, 101]) = false := by simpa using ht
      by_cases hf : ts = kFalse
      · have e : litP ⟨1, ts, tn⟩ = some ⟨1, 0, ⟨#[]⟩, none, 0, 0⟩ := by rw [hf]; rfl
        rw [e]
        have qf : (ts == [102, 97, 108, 115, 101]) = true := by rw [hf]; rfl
        have HTR := Lib.hid (fun W => truth_any false W)
        clear e hf ht
        dsimp only [Val.v]
        go_enter Tryz.func151, Tryz.ntmps151
        go_wp2_with fail
        refine (HA.out _ (H.out.below HB0.out)).mono ?_
        rintro e w1 ⟨rfl, h1⟩
        have hlw := litW_new H.out h1 (.cells #[.int .i64 1, .string S, .int .i64 tn] 41 (0, 0))
        have HLW := Lib.hid hlw
        have H1 := Lib.hid h1
        clear h1 hlw HA
        go_wp2_with fail
        refine (HTR.out _).mono ?_
        rintro e w2 ⟨rfl, h2⟩
        have HLW := Lib.hid (HLW.out.low h2)
        clear h2
        obtain ⟨⟨x0, x1, x2, x3⟩, -, xf, -⟩ := HLW.out.cells
        go_wp2_with fail
        clear x0 x1 x2 x3 xf
        obtain ⟨r1, HH⟩ := HLW.out.set (.int .i64 1) (.int .i64 0) (.string ⟨#[]⟩) (.slice none 0 0)
        refine (HP.out (by decide) _ r1).mono ?_
        rintro e w3 ⟨rfl, h3, h4⟩
        obtain ⟨⟨y0, y1, y2, y3⟩, ⟨z0, z1, z2, z3⟩, zf, HE⟩ := HH w3 _ h3 h4
        have HEE := Lib.hid HE
        clear HH HE r1 h3 h4 HP HLW
        go_wp2_with fail
        exact bodyPost_ret (v := .tuple #[V 1 0 ⟨#[]⟩ none 0 0, .bool true]) (by simp [results, Tryz.results151, go_sem, V, z0, z1, z2, z3]) rfl ⟨rfl, HEE.out _ _ _ _⟩
      · have qf : (ts == [102, 97, 108, 115, 101]) = false := by simpa using hf
        have e : litP ⟨1, ts, tn⟩ = none := by simp [litP, ht, hf]
        rw [e]
        clear e hf ht
        dsimp only [Val.v, noVal]
        go_enter Tryz.func151, Tryz.ntmps151
        go_wp2_with fail
        refine (HA.out _ (H.out.below HB0.out)).mono ?_
        rintro e w1 ⟨rfl, h1⟩
        have hlw := litW_new H.out h1 (.cells #[.int .i64 1, .string S, .int .i64 tn] 41 (0, 0))
        have HLW := Lib.hid hlw
        have H1 := Lib.hid h1
        clear h1 hlw HA
        obtain ⟨z0, z1, z2, z3, zf, hl, hn, hn1⟩ := res_old H1.out
        go_wp2_with fail
        obtain ⟨x0, x1, x2, x3, hrd, hkp⟩ := none_end H.out H1.out (.cells #[.int .i64 1, .string S, .int .i64 tn] 41 (0, 0)) zero4
        clear z0 z1 z2 z3 zf hl hn hn1
        generalize World.alloc _ _ = WF at *
        exact bodyPost_ret (v := .tuple #[V 0 0 ⟨#[]⟩ none 0 0, .bool false]) (by simp [results, Tryz.results151, go_sem, V, x0, x1, x2, x3]) rfl ⟨rfl, hrd, hkp⟩
  · have k1 : (tk == 1) = false := by simpa using h1
    have e : litP ⟨tk, ts, tn⟩ = none := by simp [litP, k1, k2, k3, k4]
    rw [e]
    clear e
    dsimp only [Val.v, noVal]
    go_enter Tryz.func151, Tryz.ntmps151
    go_wp2_with fail
    refine (HA.out _ (H.out.below HB0.out)).mono ?_
    rintro e w1 ⟨rfl, h1⟩
    have hlw := litW_new H.out h1 (.cells #[.int .i64 tk, .string S, .int .i64 tn] 41 (0, 0))
    have HLW := Lib.hid hlw
    have H1 := Lib.hid h1
    clear h1 hlw HA
    obtain ⟨z0, z1, z2, z3, zf, hl, hn, hn1⟩ := res_old H1.out
    go_wp2_with fail
    obtain ⟨x0, x1, x2, x3, hrd, hkp⟩ := none_end H.out H1.out (.cells #[.int .i64 tk, .string S, .int .i64 tn] 41 (0, 0)) zero4
    clear z0 z1 z2 z3 zf hl hn hn1
    generalize World.alloc _ _ = WF at *
    exact bodyPost_ret (v := .tuple #[V 0 0 ⟨#[]⟩ none 0 0, .bool false]) (by simp [results, Tryz.results151, go_sem, V, x0, x1, x2, x3]) rfl ⟨rfl, hrd, hkp⟩
end Go.Proofs.YtllgodaphoncnaaGreatDoor
