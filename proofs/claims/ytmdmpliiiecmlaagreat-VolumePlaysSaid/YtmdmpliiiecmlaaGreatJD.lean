/-
  Joined: HeldT, VolDrop, VolSim, VolCat, VolHav, VolFew, VolFws, VolJoin, Step. Conditions: each theorem's own.
-/
import Derived.Deep.RegionHeld
import Derived.Test.YtmdmpliiiecmlaaGreatJC
import Derived.Test.YtmdmpliiiecmlaaGreatJA
import Derived.RegionTactic

section
namespace Go.Proofs.YtmdmpliiiecmlaaGreat
open Go
set_option linter.unusedVariables false

section
variable {P : Program} {ops : Array Oper} {Q : Exit → Act → World → Prop} {md : Region.Mode} {S : World → Prop} {t : Nat}
/-- whatever order is picked from here on; S holds behind each operation as long as t hasn't come up -/
def wpAnyT (P : Program) (md : Region.Mode) (ops : Array Oper) (Q : Exit → Act → World → Prop) (S : World → Prop) (t : Nat) : Nat → Array Bool → Act → World → Prop
  | 0, listed, a, w => Region.ready md ops listed = [] ∧ Q .normal a w
  | fuel + 1, listed, a, w =>
    (Region.ready md ops listed = [] → Q .normal a w) ∧
    ∀ i ∈ Region.ready md ops listed, wpOp P ops Q i (fun a' w' => ((listed.setIfInBounds i true).getD t true = false → S w') ∧ wpAnyT P md ops Q S t fuel (listed.setIfInBounds i true) a' w') a w
theorem wpAny_of_T : ∀ (fuel : Nat) (listed : Array Bool) (a : Act) (w : World), wpAnyT P md ops Q S t fuel listed a w → wpAny P md ops Q fuel listed a w
  | 0, _, _, _, h => h
  | fuel + 1, _, _, _, h => ⟨h.1, fun i hi => wpOp_mono (fun a' w' h' => wpAny_of_T fuel _ a' w' h'.2) (h.2 i hi)⟩
/-- does operation t wait for operation i, straight or through others -/
def waits (md : Region.Mode) (ops : Array Oper) (i : Nat) : Nat → Nat → Bool
  | 0, _ => false
  | n + 1, t => match ops[t]? with
    | some o => o.after.any fun e => Region.binds md e && (decide (e.on = i) || waits md ops i n e.on)
    | none => false
/-- whatever has come up: what it waits for has, too -/
def Closed (md : Region.Mode) (ops : Array Oper) (listed : Array Bool) : Prop := ∀ (j : Nat) (o : Oper), ops[j]? = some o → listed.getD j false = true → ∀ e ∈ o.after, Region.binds md e = true → listed.getD e.on false = true
def closedB (md : Region.Mode) (ops : Array Oper) (listed : Array Bool) : Bool :=
  (List.range ops.size).all fun j => match ops[j]? with
    | some o => !(listed.getD j false) || o.after.all fun e => !(Region.binds md e) || listed.getD e.on false
    | none => true
theorem closed_of {listed : Array Bool} (h : closedB md ops listed = true) : Closed md ops listed := by
  intro j o ho hl e he hb
  unfold closedB at h
  rw [List.all_eq_true] at h
  have := h j (List.mem_range.2 (Array.getElem?_eq_some_iff.1 ho).1)
  rw [ho] at this
  simp only [hl, Bool.not_true, Bool.false_or, Array.all_eq_true_iff_forall_mem] at this
  have := this e he
  simpa [hb] using this
theorem Closed.set {listed : Array Bool} (h : Closed md ops listed) {j : Nat} (hj : j ∈ Region.ready md ops listed) : Closed md ops (listed.setIfInBounds j true) := by
  intro k o ho hl e he hb
  obtain ⟨hjun, oj, hoj, hall⟩ := mem_ready.1 hj
  by_cases hk : j = k
  · subst hk
    rw [hoj] at ho
    injection ho with ho
    subst ho
    exact getD_set_true (hall e he hb)
  · rw [getD_set_ne false hk] at hl
    exact getD_set_true (h k o ho hl e he hb)
theorem waits_listed {listed : Array Bool} (hc : Closed md ops listed) {i : Nat} : ∀ (n t : Nat) (o : Oper), ops[t]? = some o → (∀ e ∈ o.after, Region.binds md e = true → listed.getD e.on false = true) → waits md ops i n t = true → listed.getD i false = true
  | 0, _, _, _, _, h => by cases h
  | n + 1, t, o, ho, hall, h => by
    unfold waits at h
    rw [ho] at h
    simp only [Array.any_eq_true'] at h
    obtain ⟨e, he, hb⟩ := h
    simp only [Bool.and_eq_true, Bool.or_eq_true, decide_eq_true_eq] at hb
    have h1 := hall e he hb.1
    rcases hb.2 with rfl | h2
    · exact h1
    · cases hk : ops[e.on]? with
      | none =>
        cases n with
        | zero => cases h2
        | succ n => unfold waits at h2; rw [hk] at h2; cases h2
      | some ok => exact waits_listed hc n e.on ok hk (fun e' he' hb' => hc e.on ok hk h1 e' he' hb') h2
theorem wpAnyT_first {i n : Nat} {oi : Oper} {v : Value} (hi : ops[i]? = some oi) (hsel : ∀ (j : Nat) (o : Oper) cs b, ops[j]? = some o → o.op ≠ .select cs b)
    (hQ : ∀ c a w, Q (.panic c) (a.put oi.dst v) w → Q (.panic c) a w) (hte : waits md ops i n t = true) (hit : i ≠ t) :
    ∀ (fuel : Nat) (listed : Array Bool) (a : Act) (w : World),
      (∀ j oj, ops[j]? = some oj → j ≠ i → listed.getD j true = false → (∀ e ∈ oj.after, Region.binds md e = true → e.on ≠ i) → oi.apart ops oj = true) →
      i ∈ Region.ready md ops listed → Closed md ops listed → listed.getD t true = false → YieldsIf P ops S oi v a → S w →
      wpAnyT P md ops Q S t fuel (listed.setIfInBounds i true) (a.put oi.dst v) w → wpAnyT P md ops Q S t (fuel + 1) listed a w := by
  intro fuel
  induction fuel with
  | zero =>
    intro listed a w _ hr _ _ hy hS H
    refine ⟨fun h => (by rw [h] at hr; cases hr), fun j hj => ?_⟩
    by_cases hji : j = i
    · subst hji; exact hy.wpOp hi hS ⟨fun _ => hS, H⟩
    · have := ready_mono hj hji
      rw [H.1] at this
      cases this
  | succ fuel ih =>
    intro listed a w hfree hr hcl htl hy hS H
    refine ⟨fun h => (by rw [h] at hr; cases hr), fun j hj => ?_⟩
    by_cases hji : j = i
    · subst hji; exact hy.wpOp hi hS ⟨fun _ => hS, H⟩
    · have h1 := H.2 j (ready_mono hj hji)
      obtain ⟨hjun, oj, hoj, hall⟩ := mem_ready.1 hj
      have hno : ∀ b, listed.getD i b = true → False := fun b h1 => by
        have h0 := (mem_ready.1 hr).1
        rcases Nat.lt_or_ge i listed.size with h' | h'
        · simp [h'] at h0 h1; rw [h0] at h1; cases h1
        · simp [Array.getElem?_eq_none h'] at h0
      have hnot : ∀ e ∈ oj.after, Region.binds md e = true → e.on ≠ i := fun e he hb heq => by
        have h1 := hall e he hb
        rw [heq] at h1
        exact hno _ h1
      have hjt : j ≠ t := fun e => by
        subst e
        exact hno _ (waits_listed hcl n j oj hoj hall hte)
      have h2 := wpOp_putIf hoj (hfree j oj hoj hji hjun hnot) (fun cs b => hsel i oi cs b hi) (fun cs b => hsel j oj cs b hoj) hQ hy h1
      have hfree' : ∀ k ok, ops[k]? = some ok → k ≠ i → (listed.setIfInBounds j true).getD k true = false →
          (∀ e ∈ ok.after, Region.binds md e = true → e.on ≠ i) → oi.apart ops ok = true := fun k ok hk hki hun hno => by
        refine hfree k ok hk hki ?_ hno
        by_cases hjk : j = k
        · subst hjk; exact hjun
        · rw [getD_set_ne true hjk] at hun; exact hun
      have htl' : (listed.setIfInBounds j true).getD t true = false := by rw [getD_set_ne true hjt]; exact htl
      have htl2 : ((listed.setIfInBounds i true).setIfInBounds j true).getD t true = false := by rw [getD_set_ne true hjt, getD_set_ne true hit]; exact htl
      refine wpOp_mono (fun a' w' h3 => ⟨fun _ => h3.2.1 htl2, ih (listed.setIfInBounds j true) a' w' hfree' (ready_mono hr (Ne.symm hji)) (hcl.set hj) htl' h3.1 (h3.2.1 htl2) ?_⟩) h2
      rw [Array.setIfInBounds_comm _ _ hji]
      exact h3.2.2
theorem wpAnyT_take {i : Nat} {oi : Oper} {v : Value} {fuel : Nat} {listed : Array Bool} {a : Act} {w : World} (hi : ops[i]? = some oi)
    (hs : Region.noSelect ops = true) (hf : Region.free md ops listed i = true) (hr : (Region.ready md ops listed).contains i = true) (hw : waits md ops i 4 t = true) (hcl : closedB md ops listed = true) (hit : (i == t) = false) (hl : listed.getD t true = false)
    (hQ : ∀ c a w, Q (.panic c) (a.put oi.dst v) w → Q (.panic c) a w) (hy : YieldsIf P ops S oi v a) (hS : S w)
    (h : wpAnyT P md ops Q S t fuel (listed.setIfInBounds i true) (a.put oi.dst v) w) : wpAnyT P md ops Q S t (fuel + 1) listed a w :=
  wpAnyT_first hi (Region.noSelect_spec hs) hQ hw (by simpa using hit) fuel listed a w (Region.free_spec hi hf) (by simpa using hr) (closed_of hcl) hl hy hS h
/-- operation i alone may come up -/
theorem wpAnyT_one {i : Nat} {o : Oper} {fuel : Nat} {listed : Array Bool} {a : Act} {w : World} (hr : Region.ready md ops listed = [i]) (ho : ops[i]? = some o)
    (h : ∀ K' : Act → World → Prop, Shut (∀ a w, ((listed.setIfInBounds i true).getD t true = false → S w) → wpAnyT P md ops Q S t fuel (listed.setIfInBounds i true) a w → K' a w) → if Region.wanted o (yielded ops a.tmps) = true then Oper.wp P o a w K' Q else K' (a.put o.dst undef) w) :
    wpAnyT P md ops Q S t (fuel + 1) listed a w := by
  refine ⟨fun h0 => (by rw [hr] at h0; cases h0), fun j hj => ?_⟩
  rw [hr, List.mem_singleton] at hj
  subst hj
  exact wpOp_step ho (fun K' hK => h K' (fun a w hS hW => hK a w ⟨hS, hW⟩))
theorem wpAnyT_done {listed : Array Bool} {a : Act} {w : World} (hr : Region.ready md ops listed = []) (h : Q .normal a w) :
    ∀ fuel, wpAnyT P md ops Q S t fuel listed a w
  | 0 => ⟨hr, h⟩
  | _ + 1 => ⟨fun _ => h, by rw [hr]; simp⟩
theorem wp_region_T {id : Nat} {a : Act} {w : World} (t : Nat) (hm : P.follows .mixedOrders = true)
    (h : wpAnyT P .any ops Q S t ops.size (Array.replicate ops.size false) a w.drew) : (Code.region id ops true).wp P Q a w :=
  wp_region_any hm (wpAny_of_T _ _ _ _ h)
theorem if_wanted {c : Bool} {X E : Prop} (hc : c = true) (h : X) : if c = true then X else E := by rw [if_pos hc]; exact h
end
end Go.Proofs.YtmdmpliiiecmlaaGreat
end

section
namespace Go.Proofs.YtmdmpliiiecmlaaGreat
open Go.ChangeShapes Go.WideShapes Go.ChangeAt Go.RowKit
set_option linter.unusedVariables false
set_option linter.unusedSimpArgs false

/-- a command as a value -/
def cmdA (c : Cmd) : Value := .agg #[.int .i64 c.k, .int .i64 c.a, .int .i64 c.b, .int .i64 c.c, .int .i64 c.p.re, .int .i64 c.p.we, .int .i64 c.p.li, .int .i64 c.p.bu]
structure CmdIn (c : Cmd) : Prop where
  hk : In64 c.k
  ha : In64 c.a
  hb : In64 c.b
  hc : In64 c.c
  hp : InP c.p
theorem cmd_box (w : World) (c : Cmd) : ∃ W, w.alloc (.cells #[.int .i64 c.k, .int .i64 c.a, .int .i64 c.b, .int .i64 c.c, .int .i64 c.p.re, .int .i64 c.p.we, .int .i64 c.p.li, .int .i64 c.p.bu] 38) = W ∧ Below w.heap.size w W ∧
    W.heap[w.heap.size]? = some (.cells #[.int .i64 c.k, .int .i64 c.a, .int .i64 c.b, .int .i64 c.c, .int .i64 c.p.re, .int .i64 c.p.we, .int .i64 c.p.li, .int .i64 c.p.bu] 38 (0, 0)) :=
  ⟨_, rfl, below_box _ _, heap_alloc_new _ _⟩
/-- a row of ints isn't a box of a chunk -/
theorem box_ne {w : World} {B n c g b : Nat} {A : Option Addr} {us : List Int} {cs : Array Value} {fr : Nat × Nat} (h : w.heap[g]? = some (.cells cs 47 fr)) (ho : w.ownsRow B 3 1 (.slice A n c) n (numsV us)) (hb : (Value.slice A n c).ownBlock = some b) (e : b = g) : False := by
  subst e
  obtain ⟨cs', e'⟩ := row_blockM ho hb
  rw [h] at e'
  injection e' with e'
  injection e' with _ e'
  exact absurd e' (by decide)
theorem two_lists {B b9 : Nat} {w6 w7 w8 : World} {r : Ck} {s1 s2 : Sl} {us vs : List Int} (hr8 : w8.heap[b9]? = some (.cells #[.int .i64 r.id, .int .i64 r.vo, .int .i64 r.ep, .slice r.m.A r.m.n r.m.c, .slice r.j.A r.j.n r.j.c] 47 (0, 0)))
    (ho : CkOwn w6 B r) (h7 : w7.ownsRow B 3 1 (.slice s1.A s1.n s1.c) s1.n (numsV us)) (k7 : ∀ b, (Value.slice s1.A s1.n s1.c).ownBlock = some b → (Value.slice r.m.A r.m.n r.m.c).ownBlock = some b) (t7 : Turned (fun k => (Value.slice r.m.A r.m.n r.m.c).ownBlock = some k) w6.drew w7)
    (h8 : w8.ownsRow B 3 1 (.slice s2.A s2.n s2.c) s2.n (numsV vs)) (t8 : Turned (fun k => (Value.slice r.j.A r.j.n r.j.c).ownBlock = some k) w7 w8) (hB : B ≤ b9) :
    ∃ q : Ck, q.dat = ⟨r.id, r.vo, r.ep, us, vs⟩ ∧ ((w8.setCell ⟨b9, 3, none⟩ (.slice s1.A s1.n s1.c)).setCell ⟨b9, 4, none⟩ (.slice s2.A s2.n s2.c)).heap[b9]? = some (.cells #[.int .i64 q.id, .int .i64 q.vo, .int .i64 q.ep, .slice q.m.A q.m.n q.m.c, .slice q.j.A q.j.n q.j.c] 47 (0, 0)) ∧
      CkOk ((w8.setCell ⟨b9, 3, none⟩ (.slice s1.A s1.n s1.c)).setCell ⟨b9, 4, none⟩ (.slice s2.A s2.n s2.c)) q ∧ Turned (fun k => B ≤ k) w6 ((w8.setCell ⟨b9, 3, none⟩ (.slice s1.A s1.n s1.c)).setCell ⟨b9, 4, none⟩ (.slice s2.A s2.n s2.c)) := by
  obtain ⟨h1, t9⟩ := ck_set2 hr8 s1 s2
  have e7 := t8.own h7 (fun k hk e => ho.ne k (k7 k hk) e)
  refine ⟨⟨r.id, r.vo, r.ep, s1, s2, us, vs⟩, rfl, h1, ⟨IntsT.own (t9.own e7 fun b hb e => box_ne hr8 e7 hb e), IntsT.own (t9.own h8 fun b hb e => box_ne hr8 h8 hb e)⟩, ?_⟩
  have t68 : Turned (fun k => B ≤ k) w6 w7 := (Turned.of_below (p := fun _ => False) (Below.refl _ _).drew).trans t7 (fun _ e => e.elim) (fun k _ e => (ho.m.lt k e).1)
  exact (t68.trans t8 (fun _ e => e) (fun k _ e => (ho.j.lt k e).1)).trans t9 (fun _ e => e) (fun k _ e => by subst e; exact hB)
/-- what a command leaves: the state that was told, or an error -/
def DoRet (g : Nat) (o : St × Int) (w : World) (e : Ending) (w' : World) : Prop :=
  e = .returned (.int .i64 o.2) ∧ (o.2 = 0 → StAt w' g o.1) ∧ Turned (fun k => k = g) w w'
theorem DoRet.err {g : Nat} {s : St} {x : Int} {w w' : World} (h : Below w.heap.size w w') (hx : x ≠ 0) : DoRet g (s, x) w (.returned (.int .i64 x)) w' := ⟨rfl, fun e => absurd e hx, .of_below h⟩
attribute [local go_sem ↓] ldCk_eq
attribute [local go_sem ↓] stCk_eq
set_option maxRecDepth 100000 in
set_option maxHeartbeats 4000000 in
theorem VDrop (g : Nat) (s : St) (c : Cmd) (w : World) (h : StAt w g s) (hf : StFit s) (ho : OrdS s) (hk : c.k = 6) :
    Calls Tryz.prog 56 #[.pointer (some ⟨g, 0, none⟩), cmdA c] w (DoRet g (chunkS s c) w) := by
  unfold cmdA
  obtain ⟨w1, hw1, hb1, hr1⟩ := cmd_box w c
  have c1 : w1.cell? ⟨w.heap.size, 1, none⟩ = some (.int .i64 c.a) := row_cell hr1 1
  have c2 : w1.cell? ⟨w.heap.size, 2, none⟩ = some (.int .i64 c.b) := row_cell hr1 2
  have H := Lib.hid (h.below hb1); have Hb1 := Lib.hid hb1; have Hr1 := Lib.hid hr1
  have hgl := h.lt
  have h7 : ¬ (c.k = 7 ∧ isSrv s c.c = false) := fun e => by omega
  unfold chunkS
  rw [if_neg h7]
  have Hk := Lib.hid hk
  clear h hb1 hr1 h7 hk
  cases hfs : findS s c.a with
  | none =>
    have KE := Lib.hid (VinEpoch_none g s c.a c.b w1 H.out hf ho hfs)
    have Hb1 := Hb1
    clear hfs
    go_enter Tryz.func56, Tryz.ntmps56
    go_wp2_with fail
    refine KE.out.mono ?_
    rintro e w2 ⟨rfl, hb2⟩
    obtain ⟨wz, w3, hwz, hst9, hb3, hr3⟩ := ck_new w2 ck0
    simp only [ck0, Sl.nil] at hst9 hr3
    have Hb3 := Lib.hid (Hb1.out.trans ((hb2.trans (hb3.mono hb2.size)).mono Hb1.out.size))
    clear hb2 hb3 hr3 hw1 c1 c2
    go_wp2
    go_ret
    exact DoRet.err Hb3.out (by decide)
  | some x =>
    obtain ⟨i, j, k⟩ := x
    simp only
    by_cases hep : k.ep ≠ c.b
    · rw [if_pos hep]
      have KE := Lib.hid (VinEpoch_old g s c.a c.b i j k w1 H.out hf ho hfs hep)
      clear hfs hep
      go_enter Tryz.func56, Tryz.ntmps56
      go_wp2_with fail
      refine KE.out.mono ?_
      rintro e w2 ⟨rfl, hb2⟩
      obtain ⟨wz, w3, hwz, hst9, hb3, hr3⟩ := ck_new w2 ck0
      simp only [ck0, Sl.nil] at hst9 hr3
      have Hb3 := Lib.hid (Hb1.out.trans ((hb2.trans (hb3.mono hb2.size)).mono Hb1.out.size))
      clear hb2 hb3 hr3 hw1 c1 c2
      go_wp2
      go_ret
      exact DoRet.err Hb3.out (by decide)
    · rw [if_neg hep]
      have hep : k.ep = c.b := Decidable.of_not_not hep
      have KE := VinEpoch_yes g s c.a i j k w1 H.out hf ho hfs
      rw [hep] at KE
      replace KE := Lib.hid KE
      have hfa := findS_some hfs
      have hkf := (hf.vs i hfa.1).ks k (List.mem_of_getElem? hfa.2.1)
      have Hfa := Lib.hid hfa; have Hkf := Lib.hid hkf; have Hf := Lib.hid hf; have Ho := Lib.hid ho
      have e0 : chunkF c k = if hasK c.c k = false then .inr 1 else if k.ms = [c.c] then .inr 9 else .inl { k with ms := withoutL k.ms c.c, js := withoutL k.js c.c } := by unfold chunkF; rw [if_pos Hk.out]
      rw [e0]
      clear hfs hfa hkf hf ho hep e0
      by_cases hb : hasK c.c k = false
      · rw [if_pos hb]
        have Hb := Lib.hid hb
        clear hb
        go_enter Tryz.func56, Tryz.ntmps56
        go_wp2_with fail
        refine KE.out.mono ?_
        rintro e w2 ⟨r, rfl, rfl, hown, hb2⟩
        unfold ckA
        obtain ⟨wz, w3, hwz, hst9, hb3, hr3⟩ := ck_new w2 r
        have hld := ldCk_run (CkAt.of_row hr3)
        have hown3 := hown.below hb3
        have hml : r.ms.length ≤ 16 := Hkf.out.ml
        have hjl : r.js.length ≤ 16 := Hkf.out.jl
        have KH := Vhas r c.c w3 hown3.ok (by omega) (by omega)
        have hb13 := hb2.trans (hb3.mono hb2.size)
        have hr13 := row_below Hr1.out hb13
        have x3 : w3.cell? ⟨w.heap.size, 3, none⟩ = some (.int .i64 c.c) := row_cell hr13 3
        have H3 := Lib.hid (H.out.below hb13); have Hb13 := Lib.hid (Hb1.out.trans (hb13.mono Hb1.out.size)); have Hr13 := Lib.hid hr13; have Hw13 := Lib.hid hb13; have Hr3 := Lib.hid hr3; have Hown3 := Lib.hid hown3
        have hs1 : w1.heap.size ≤ w2.heap.size := hb2.size
        have hsw : w.heap.size < w1.heap.size := (Array.getElem?_eq_some_iff.1 Hr1.out).1
        rw [Hb.out] at KH
        unfold ckA at KH
        replace KH := Lib.hid KH
        clear hown hb2 hb3 hr3 hown3 hb13 hr13 c1 c2 hw1
        go_wp2_with (go_at_call 64; refine KH.out.mono ?_; rintro e w4 ⟨rfl, hb4⟩; have Hb4 := Lib.hid (Hb13.out.trans (hb4.mono Hb13.out.size)); clear hb4)
        go_ret
        exact DoRet.err Hb4.out (by decide)
      · rw [if_neg hb]
        have Hb := Lib.hid (show hasK c.c k = true by simpa using hb)
        clear hb
        by_cases hm : k.ms = [c.c]
        · rw [if_pos hm]
          have Hm := Lib.hid hm
          clear hm
          go_enter Tryz.func56, Tryz.ntmps56
          go_wp2_with fail
          refine KE.out.mono ?_
          rintro e w2 ⟨r, rfl, rfl, hown, hb2⟩
          unfold ckA
          obtain ⟨wz, w3, hwz, hst9, hb3, hr3⟩ := ck_new w2 r
          have hld := ldCk_run (CkAt.of_row hr3)
          have hown3 := hown.below hb3
          have hml : r.ms.length ≤ 16 := Hkf.out.ml
          have hjl : r.js.length ≤ 16 := Hkf.out.jl
          have KH := Vhas r c.c w3 hown3.ok (by omega) (by omega)
          have hb13 := hb2.trans (hb3.mono hb2.size)
          have hr13 := row_below Hr1.out hb13
          have x3 : w3.cell? ⟨w.heap.size, 3, none⟩ = some (.int .i64 c.c) := row_cell hr13 3
          have H3 := Lib.hid (H.out.below hb13); have Hb13 := Lib.hid (Hb1.out.trans (hb13.mono Hb1.out.size)); have Hr13 := Lib.hid hr13; have Hw13 := Lib.hid hb13; have Hr3 := Lib.hid hr3; have Hown3 := Lib.hid hown3
          have hs1 : w1.heap.size ≤ w2.heap.size := hb2.size
          have hsw : w.heap.size < w1.heap.size := (Array.getElem?_eq_some_iff.1 Hr1.out).1
          rw [Hb.out] at KH
          unfold ckA at KH
          replace KH := Lib.hid KH
          clear hown hb2 hb3 hr3 hown3 hb13 hr13 c1 c2 hw1
          go_wp2_with fail
          refine KH.out.mono ?_
          rintro e w4 ⟨rfl, hb4⟩
          have hr4 := row_below Hr3.out hb4
          have y3 : w4.cell? ⟨w2.heap.size, 3, none⟩ = some (.slice r.m.A r.m.n r.m.c) := row_cell hr4 3
          have y3c : w4.cell? ⟨w.heap.size, 3, none⟩ = some (.int .i64 c.c) := row_cell (row_below Hr13.out hb4) 3
          obtain ⟨w5, hw5⟩ : ∃ w5, w4.alloc (.cells #[.int .i64 c.c] 3) = w5 := ⟨_, rfl⟩
          have hb5 : Below w4.heap.size w4 w5 := by rw [← hw5]; exact below_box _ _
          have hr5 : w5.heap[w4.heap.size]? = some (.cells #[.int .i64 c.c] 3 (0, 0)) := by rw [← hw5]; exact heap_alloc_new _ _
          have hone : IntsT w5 ⟨some ⟨w4.heap.size, 0, none⟩, 1, 1⟩ [c.c] := ⟨rfl, Nat.le_refl _, by show 1 ≤ maxLen; unfold maxLen; omega, Seen.of_cells hr5, .inr ⟨_, _, _, _, rfl, hr5⟩⟩
          have hown5 := (Hown3.out.below hb4).below hb5
          have KQ := VEqual r.m _ r.ms [c.c] w5 hown5.ok.m hone (by omega)
          have Hb45 := Lib.hid (Hb13.out.trans ((hb4.trans (hb5.mono hb4.size)).mono Hb13.out.size))
          have hd : decide (r.ms = [c.c]) = true := decide_eq_true Hm.out
          rw [hd] at KQ
          simp only at KQ
          have KQ' := Lib.hid KQ
          clear hb4 hr4 hb5 hr5 hone hown5 KQ hd
          go_wp2_with (go_at_call 89; refine KQ'.out.mono ?_; rintro e w6 ⟨rfl, hb6⟩; have Hb6 := Lib.hid (Hb45.out.trans (hb6.mono Hb45.out.size)); clear hb6)
          go_ret
          exact DoRet.err Hb6.out (by decide)
        · rw [if_neg hm]
          have Hm := Lib.hid hm
          clear hm
          go_enter Tryz.func56, Tryz.ntmps56
          go_wp2_with fail
          refine KE.out.mono ?_
          rintro e w2 ⟨r, rfl, rfl, hown, hb2⟩
          unfold ckA
          obtain ⟨wz, w3, hwz, hst9, hb3, hr3⟩ := ck_new w2 r
          have hld := ldCk_run (CkAt.of_row hr3)
          have hown3 := hown.below hb3
          have hml : r.ms.length ≤ 16 := Hkf.out.ml
          have hjl : r.js.length ≤ 16 := Hkf.out.jl
          have KH := Vhas r c.c w3 hown3.ok (by omega) (by omega)
          have hb13 := hb2.trans (hb3.mono hb2.size)
          have hr13 := row_below Hr1.out hb13
          have x3 : w3.cell? ⟨w.heap.size, 3, none⟩ = some (.int .i64 c.c) := row_cell hr13 3
          have H3 := Lib.hid (H.out.below hb13); have Hb13 := Lib.hid (Hb1.out.trans (hb13.mono Hb1.out.size)); have Hr13 := Lib.hid hr13; have Hw13 := Lib.hid hb13; have Hr3 := Lib.hid hr3; have Hown3 := Lib.hid hown3
          have hs1 : w1.heap.size ≤ w2.heap.size := hb2.size
          have hsw : w.heap.size < w1.heap.size := (Array.getElem?_eq_some_iff.1 Hr1.out).1
          rw [Hb.out] at KH
          unfold ckA at KH
          replace KH := Lib.hid KH
          clear hown hb2 hb3 hr3 hown3 hb13 hr13 c1 c2 hw1
          go_wp2_with fail
          refine KH.out.mono ?_
          rintro e w4 ⟨rfl, hb4⟩
          have hr4 := row_below Hr3.out hb4
          have y3 : w4.cell? ⟨w2.heap.size, 3, none⟩ = some (.slice r.m.A r.m.n r.m.c) := row_cell hr4 3
          have y3c : w4.cell? ⟨w.heap.size, 3, none⟩ = some (.int .i64 c.c) := row_cell (row_below Hr13.out hb4) 3
          obtain ⟨w5, hw5⟩ : ∃ w5, w4.alloc (.cells #[.int .i64 c.c] 3) = w5 := ⟨_, rfl⟩
          have hb5 : Below w4.heap.size w4 w5 := by rw [← hw5]; exact below_box _ _
          have hr5 : w5.heap[w4.heap.size]? = some (.cells #[.int .i64 c.c] 3 (0, 0)) := by rw [← hw5]; exact heap_alloc_new _ _
          have hone : IntsT w5 ⟨some ⟨w4.heap.size, 0, none⟩, 1, 1⟩ [c.c] := ⟨rfl, Nat.le_refl _, by show 1 ≤ maxLen; unfold maxLen; omega, Seen.of_cells hr5, .inr ⟨_, _, _, _, rfl, hr5⟩⟩
          have hown5 := (Hown3.out.below hb4).below hb5
          have KQ := VEqual r.m _ r.ms [c.c] w5 hown5.ok.m hone (by omega)
          have hb35 := hb4.trans (hb5.mono hb4.size)
          have hd : decide (r.ms = [c.c]) = false := decide_eq_false Hm.out
          rw [hd] at KQ
          simp only at KQ
          have KQ' := Lib.hid KQ
          have Hb35 := Lib.hid hb35; have Hown5 := Lib.hid hown5
          clear hb4 hr4 hb5 hr5 hone hown5 KQ hd hb35
          go_upto_region 8 with (go_at_call 89; refine KQ'.out.mono ?_; rintro e w6 ⟨rfl, hb6⟩; have Hb36 := Lib.hid (Hb35.out.trans (hb6.mono Hb35.out.size)); have Hown6 := Lib.hid (Hown5.out.below hb6); clear hb6)
          clear y3 y3c x3 hld hst9 hwz
          have hr6 := row_below Hr3.out Hb36.out
          have Hr6 := Lib.hid hr6; have Hr16 := Lib.hid (row_below Hr13.out Hb36.out)
          have d3 : w6.drew.cell? ⟨w2.heap.size, 3, none⟩ = some (.slice r.m.A r.m.n r.m.c) := row_cell (w := w6.drew) hr6 3
          have d4 : w6.drew.cell? ⟨w2.heap.size, 4, none⟩ = some (.slice r.j.A r.j.n r.j.c) := row_cell (w := w6.drew) hr6 4
          have d5 : w6.drew.cell? ⟨w.heap.size, 3, none⟩ = some (.int .i64 c.c) := row_cell (w := w6.drew) Hr16.out 3
          have hl6 := (Array.getElem?_eq_some_iff.1 hr6).1
          have hs6 : w3.heap.size ≤ w6.heap.size := Hb36.out.size
          have hs13 := Hb13.out.size
          have hs23 : w2.heap.size < w3.heap.size := (Array.getElem?_eq_some_iff.1 Hr3.out).1
          have KW1 := Lib.hid (Vwithout w1.heap.size r.m r.ms c.c w6.drew (Hown6.out.below (Below.refl _ _).drew).m (by show w1.heap.size ≤ w6.heap.size; omega))
          clear hr6
          go_cut [6] (fun _ wx => ∃ q : Ck, q.dat = { r.dat with ms := withoutL r.ms c.c, js := withoutL r.js c.c } ∧ wx.heap[w2.heap.size]? = some (.cells #[.int .i64 q.id, .int .i64 q.vo, .int .i64 q.ep, .slice q.m.A q.m.n q.m.c, .slice q.j.A q.j.n q.j.c] 47 (0, 0)) ∧ CkOk wx q ∧ Turned (fun k => w1.heap.size ≤ k) w6 wx)
          case first =>
            refine wp_region_T (S := (fun W => W.cell? ⟨w2.heap.size, 3, none⟩ = some (.slice r.m.A r.m.n r.m.c) ∧ W.cell? ⟨w2.heap.size, 4, none⟩ = some (.slice r.j.A r.j.n r.j.c) ∧ W.cell? ⟨w.heap.size, 3, none⟩ = some (.int .i64 c.c))) 11 (by kernel_rfl) ?_
            have hHeld := (And.intro d3 (And.intro d4 d5))
            refine wpAnyT_take (i := 0) (v := ?vr1) rfl (by kernel_rfl) (by kernel_rfl) (by kernel_rfl) (by kernel_rfl) (by kernel_rfl) (by rfl) (by rfl) (fun _ _ _ h => h) (Or.inl ⟨by rfl, ?hyr1⟩) hHeld ?restr1
            case hyr1 => (intro w' hS; obtain ⟨s1, s2, s3⟩ := hS; (try simp only [List.getElem_toArray, List.getElem_cons_succ, List.getElem_cons_zero]); go_simp; try with_reducible rfl)
            try simp only [Act.put, List.setIfInBounds_toArray, List.set_cons_zero, List.set_cons_succ, List.getElem_toArray, List.getElem_cons_succ, List.getElem_cons_zero]
            refine wpAnyT_take (i := 1) (v := ?vr2) rfl (by kernel_rfl) (by kernel_rfl) (by kernel_rfl) (by kernel_rfl) (by kernel_rfl) (by rfl) (by rfl) (fun _ _ _ h => h) (Or.inl ⟨by rfl, ?hyr2⟩) hHeld ?restr2
            case hyr2 => (intro w' hS; obtain ⟨s1, s2, s3⟩ := hS; (try simp only [List.getElem_toArray, List.getElem_cons_succ, List.getElem_cons_zero]); go_simp; try with_reducible rfl)
            try simp only [Act.put, List.setIfInBounds_toArray, List.set_cons_zero, List.set_cons_succ, List.getElem_toArray, List.getElem_cons_succ, List.getElem_cons_zero]
            refine wpAnyT_take (i := 2) (v := ?vr3) rfl (by kernel_rfl) (by kernel_rfl) (by kernel_rfl) (by kernel_rfl) (by kernel_rfl) (by rfl) (by rfl) (fun _ _ _ h => h) (Or.inl ⟨by rfl, ?hyr3⟩) hHeld ?restr3
            case hyr3 => (intro w' hS; obtain ⟨s1, s2, s3⟩ := hS; (try simp only [List.getElem_toArray, List.getElem_cons_succ, List.getElem_cons_zero]); go_simp; try with_reducible rfl)
            try simp only [Act.put, List.setIfInBounds_toArray, List.set_cons_zero, List.set_cons_succ, List.getElem_toArray, List.getElem_cons_succ, List.getElem_cons_zero]
            refine wpAnyT_take (i := 3) (v := ?vr4) rfl (by kernel_rfl) (by kernel_rfl) (by kernel_rfl) (by kernel_rfl) (by kernel_rfl) (by rfl) (by rfl) (fun _ _ _ h => h) (Or.inl ⟨by rfl, ?hyr4⟩) hHeld ?restr4
            case hyr4 => (intro w' hS; obtain ⟨s1, s2, s3⟩ := hS; (try simp only [List.getElem_toArray, List.getElem_cons_succ, List.getElem_cons_zero]); go_simp; try with_reducible rfl)
            try simp only [Act.put, List.setIfInBounds_toArray, List.set_cons_zero, List.set_cons_succ, List.getElem_toArray, List.getElem_cons_succ, List.getElem_cons_zero]
            refine wpAnyT_take (i := 5) (v := ?vr5) rfl (by kernel_rfl) (by kernel_rfl) (by kernel_rfl) (by kernel_rfl) (by kernel_rfl) (by rfl) (by rfl) (fun _ _ _ h => h) (Or.inl ⟨by rfl, ?hyr5⟩) hHeld ?restr5
            case hyr5 => (intro w' hS; obtain ⟨s1, s2, s3⟩ := hS; (try simp only [List.getElem_toArray, List.getElem_cons_succ, List.getElem_cons_zero]); go_simp; try with_reducible rfl)
            try simp only [Act.put, List.setIfInBounds_toArray, List.set_cons_zero, List.set_cons_succ, List.getElem_toArray, List.getElem_cons_succ, List.getElem_cons_zero]
            refine wpAnyT_take (i := 6) (v := ?vr6) rfl (by kernel_rfl) (by kernel_rfl) (by kernel_rfl) (by kernel_rfl) (by kernel_rfl) (by rfl) (by rfl) (fun _ _ _ h => h) (Or.inl ⟨by rfl, ?hyr6⟩) hHeld ?restr6
            case hyr6 => (intro w' hS; obtain ⟨s1, s2, s3⟩ := hS; (try simp only [List.getElem_toArray, List.getElem_cons_succ, List.getElem_cons_zero]); go_simp; try with_reducible rfl)
            try simp only [Act.put, List.setIfInBounds_toArray, List.set_cons_zero, List.set_cons_succ, List.getElem_toArray, List.getElem_cons_succ, List.getElem_cons_zero]
            refine wpAnyT_take (i := 7) (v := ?vr7) rfl (by kernel_rfl) (by kernel_rfl) (by kernel_rfl) (by kernel_rfl) (by kernel_rfl) (by rfl) (by rfl) (fun _ _ _ h => h) (Or.inl ⟨by rfl, ?hyr7⟩) hHeld ?restr7
            case hyr7 => (intro w' hS; obtain ⟨s1, s2, s3⟩ := hS; (try simp only [List.getElem_toArray, List.getElem_cons_succ, List.getElem_cons_zero]); go_simp; try with_reducible rfl)
            try simp only [Act.put, List.setIfInBounds_toArray, List.set_cons_zero, List.set_cons_succ, List.getElem_toArray, List.getElem_cons_succ, List.getElem_cons_zero]
            refine wpAnyT_take (i := 8) (v := ?vr8) rfl (by kernel_rfl) (by kernel_rfl) (by kernel_rfl) (by kernel_rfl) (by kernel_rfl) (by rfl) (by rfl) (fun _ _ _ h => h) (Or.inl ⟨by rfl, ?hyr8⟩) hHeld ?restr8
            case hyr8 => (intro w' hS; obtain ⟨s1, s2, s3⟩ := hS; (try simp only [List.getElem_toArray, List.getElem_cons_succ, List.getElem_cons_zero]); go_simp; try with_reducible rfl)
            try simp only [Act.put, List.setIfInBounds_toArray, List.set_cons_zero, List.set_cons_succ, List.getElem_toArray, List.getElem_cons_succ, List.getElem_cons_zero]
            refine wpAnyT_one (i := 4) (by kernel_rfl) rfl (fun K hK => ?_)
            (try simp only [List.getElem_toArray, List.getElem_cons_succ, List.getElem_cons_zero])
            go_simp
            refine KW1.out.mono ?_
            rintro e w7 ⟨s1, rfl, hown7, hbk7, ht7⟩
            have Hown7 := Lib.hid hown7
            have Ht7 := Lib.hid ht7
            have Hbk7 := Lib.hid hbk7
            have NM := Lib.hid (fun b (hb : (Value.slice r.m.A r.m.n r.m.c).ownBlock = some b) (e : b = w2.heap.size) => box_ne Hr6.out Hown6.out.m hb e)
            have NJ := Lib.hid (fun b (hb : (Value.slice r.j.A r.j.n r.j.c).ownBlock = some b) (e : b = w2.heap.size) => box_ne Hr6.out Hown6.out.j hb e)
            have Hr7 := Lib.hid (ht7.heap (w := w6.drew) Hr6.out (fun e => NM.out _ e rfl))
            have g3 : w7.cell? ⟨w2.heap.size, 3, none⟩ = some (.slice r.m.A r.m.n r.m.c) := row_cell Hr7.out 3
            have g4 : w7.cell? ⟨w2.heap.size, 4, none⟩ = some (.slice r.j.A r.j.n r.j.c) := row_cell Hr7.out 4
            have g5 : w7.cell? ⟨w.heap.size, 3, none⟩ = some (.int .i64 c.c) := row_cell (ht7.heap (w := w6.drew) Hr16.out (fun e => by have := (Hown6.out.m.lt _ e).1; omega)) 3
            have Hoj7 := Lib.hid (ht7.own (w := w6.drew) Hown6.out.j (fun b hb e => Hown6.out.ne b e hb))
            have KW2 := Lib.hid (Vwithout w1.heap.size r.j r.js c.c w7 Hoj7.out (by have := ht7.size; show w1.heap.size ≤ w7.heap.size; have e6 : w6.drew.heap.size = w6.heap.size := rfl; omega))
            clear hown7 ht7 hbk7
            refine hK.out _ _ (fun _ => (And.intro g3 (And.intro g4 g5))) ?_
            clear hHeld
            have hHeld := (And.intro g3 (And.intro g4 g5))
            clear hK K
            try simp only [Act.put, List.setIfInBounds_toArray, List.set_cons_zero, List.set_cons_succ, List.getElem_toArray, List.getElem_cons_succ, List.getElem_cons_zero]
            refine wpAnyT_take (i := 10) (v := ?vr9) rfl (by kernel_rfl) (by kernel_rfl) (by kernel_rfl) (by kernel_rfl) (by kernel_rfl) (by rfl) (by rfl) (fun _ _ _ h => h) (Or.inl ⟨by rfl, ?hyr9⟩) hHeld ?restr9
            case hyr9 => (intro w' hS; obtain ⟨s1, s2, s3⟩ := hS; (try simp only [List.getElem_toArray, List.getElem_cons_succ, List.getElem_cons_zero]); go_simp; try with_reducible rfl)
            try simp only [Act.put, List.setIfInBounds_toArray, List.set_cons_zero, List.set_cons_succ, List.getElem_toArray, List.getElem_cons_succ, List.getElem_cons_zero]
            refine wpAnyT_one (i := 9) (by kernel_rfl) rfl (fun K hK => ?_)
            (try simp only [List.getElem_toArray, List.getElem_cons_succ, List.getElem_cons_zero])
            go_simp
            refine KW2.out.mono ?_
            rintro e w8 ⟨s2, rfl, hown8, hbk8, ht8⟩
            have Hown8 := Lib.hid hown8
            have Ht8 := Lib.hid ht8
            have hr8 := ht8.heap Hr7.out (fun e => NJ.out _ e rfl)
            have f3 : w8.cell? ⟨w2.heap.size, 3, none⟩ = some (.slice r.m.A r.m.n r.m.c) := row_cell hr8 3
            have f4 : w8.cell? ⟨w2.heap.size, 4, none⟩ = some (.slice r.j.A r.j.n r.j.c) := row_cell hr8 4
            have f5 : w8.cell? ⟨w.heap.size, 3, none⟩ = some (.int .i64 c.c) := by
              rw [← g5]; exact World.cell?_of_block (w := w7) (ht8.block w.heap.size (block_lt_of_cell g5) (fun e => by have := (Hown6.out.j.lt _ e).1; omega))
            have z3 := row_frozen hr8 3
            have z4 := row_frozen hr8 4
            have Hr8 := Lib.hid hr8
            clear hown8 ht8 hr8 hbk8
            refine hK.out _ _ (fun _ => (And.intro f3 (And.intro f4 f5))) ?_
            clear hHeld
            have hHeld := (And.intro f3 (And.intro f4 f5))
            clear hK K
            try simp only [Act.put, List.setIfInBounds_toArray, List.set_cons_zero, List.set_cons_succ, List.getElem_toArray, List.getElem_cons_succ, List.getElem_cons_zero]
            refine wpAnyT_one (i := 11) (by kernel_rfl) rfl (fun K hK => ?_)
            (try simp only [List.getElem_toArray, List.getElem_cons_succ, List.getElem_cons_zero])
            go_simp
            refine hK.out _ _ (fun h => (by cases h)) ?_
            clear hK K
            try simp only [Act.put, List.setIfInBounds_toArray, List.set_cons_zero, List.set_cons_succ, List.getElem_toArray, List.getElem_cons_succ, List.getElem_cons_zero]
            refine wpAnyT_one (i := 12) (by kernel_rfl) rfl (fun K hK => ?_)
            (try simp only [List.getElem_toArray, List.getElem_cons_succ, List.getElem_cons_zero])
            go_simp
            refine hK.out _ _ (fun h => (by cases h)) ?_
            clear hK K
            try simp only [Act.put, List.setIfInBounds_toArray, List.set_cons_zero, List.set_cons_succ, List.getElem_toArray, List.getElem_cons_succ, List.getElem_cons_zero]
            refine wpAnyT_one (i := 13) (by kernel_rfl) rfl (fun K hK => ?_)
            (try simp only [List.getElem_toArray, List.getElem_cons_succ, List.getElem_cons_zero])
            go_simp
            refine hK.out _ _ (fun h => (by cases h)) ?_
            clear hK K
            try simp only [Act.put, List.setIfInBounds_toArray, List.set_cons_zero, List.set_cons_succ, List.getElem_toArray, List.getElem_cons_succ, List.getElem_cons_zero]
            refine wpAnyT_done (by kernel_rfl) ?_ _
            go_wp2
            go_meet
            exact two_lists Hr8.out Hown6.out Hown7.out Hbk7.out Ht7.out Hown8.out Ht8.out (by omega)
          case rest =>
            obtain ⟨q, hq, hrq, hokq, htq⟩ := hcut
            have hldq := ldCk_run (CkAt.of_row hrq)
            have hbc : Below w1.heap.size w1 wc := (Hw13.out.trans (Hb36.out.mono Hw13.out.size)).trans (htq.below (fun _ e => e) (by have := Hw13.out.size; omega))
            have hid : q.id = r.dat.id := congrArg Chk.id hq
            have hep2 : q.ep = r.dat.ep := congrArg Chk.ep hq
            have hfe := Hkf.out.ep
            have hfid : r.dat.id = c.a := Hfa.out.2.2
            have KR := Vrenew g s i j r.dat q wc (H.out.below hbc) Hf.out Ho.out ⟨Hfa.out.1, Hfa.out.2.1, hid.symm⟩ hokq (by rw [hep2]; exact hfe.1) (by rw [hep2]; exact hfe.2)
            unfold ckA at KR
            have KR' := Lib.hid KR; have Hq := Lib.hid hq; have Hbc := Lib.hid hbc
            clear hq hrq hokq htq hid hep2 hfe hfid KR hbc KW1 d3 d4 d5 hw5
            go_wp2_with (go_at_call 91; refine KR'.out.mono ?_; rintro e w10 ⟨rfl, hst10, ht10⟩; have Hst := Lib.hid hst10; have Ht := Lib.hid ht10; clear hst10 ht10)
            go_ret
            refine ⟨rfl, fun _ => ?_, (Turned.of_below (p := fun k => k = g) (Hb1.out.trans (Hbc.out.mono Hb1.out.size))).trans Ht.out (fun _ e => e) (fun _ _ e => e)⟩
            have := Hst.out
            rw [Hq.out] at this
            exact this
end Go.Proofs.YtmdmpliiiecmlaaGreat
end

section
namespace Go.Proofs.YtmdmpliiiecmlaaGreat
open Go.ChangeShapes Go.WideShapes Go.ChangeAt Go.RowKit
set_option linter.unusedVariables false

/-- cells stored side by side -/
def putL (cs : Array Value) (o : Nat) : List Value → Array Value
  | [] => cs
  | v :: r => putL (cs.setIfInBounds o v) (o + 1) r
theorem putL_size : ∀ (vs : List Value) (cs : Array Value) (o : Nat), (putL cs o vs).size = cs.size
  | [], _, _ => rfl
  | v :: r, cs, o => by rw [putL, putL_size r, Array.size_setIfInBounds]
theorem putL_other : ∀ (vs : List Value) (cs : Array Value) (o j : Nat), (j < o ∨ o + vs.length ≤ j) → (putL cs o vs)[j]? = cs[j]?
  | [], _, _, _, _ => rfl
  | v :: r, cs, o, j, h => by
    rw [putL, putL_other r _ _ _ (by simp only [List.length_cons] at h; omega), set_get (by simp only [List.length_cons] at h; omega)]
theorem putL_get : ∀ (vs : List Value) (cs : Array Value) (o j : Nat) (v : Value), vs[j]? = some v → o + vs.length ≤ cs.size → (putL cs o vs)[o + j]? = some v
  | [], _, _, _, _, h, _ => by simp at h
  | u :: r, cs, o, 0, v, h, hs => by
    simp at h
    subst h
    simp only [List.length_cons] at hs
    rw [putL]
    simp only [Nat.add_zero]
    rw [putL_other r _ _ _ (.inl (by omega)), set_get_same (by omega)]
  | u :: r, cs, o, j + 1, v, h, hs => by
    simp only [List.length_cons] at hs
    rw [putL]
    have := putL_get r (cs.setIfInBounds o u) (o + 1) j v (by simpa using h) (by rw [Array.size_setIfInBounds]; omega)
    rwa [show o + (j + 1) = o + 1 + j by omega]
theorem setCells_row : ∀ (vs : List Value) (w : World) (g o : Nat) (cs : Array Value) (T : TypeId), w.heap[g]? = some (.cells cs T (0, 0)) → (w.setCells g o vs).heap[g]? = some (.cells (putL cs o vs) T (0, 0))
  | [], _, _, _, _, _, h => h
  | v :: r, w, g, o, cs, T, h => setCells_row r (w.setCell ⟨g, o, none⟩ v) g (o + 1) (cs.setIfInBounds o v) T (row_set h o v)
/-- a struct stored whole into the middle of a row -/
theorem st_mid {w : World} {g o : Nat} {cs new : Array Value} {T T' : TypeId} (h : w.heap[g]? = some (.cells cs T' (0, 0))) (hs : o + new.size ≤ cs.size) (hi : (Tryz.prog.info? T).map (·.size) = some new.size) (h1 : new.all (·.oneCell') = true) :
    ∃ w', (Instr.storeAt T (.pointer (some ⟨g, o, none⟩)) (.agg new)).run Tryz.prog w = .ok () w' ∧ w'.heap[g]? = some (.cells (putL cs o new.toList) T' (0, 0)) ∧ Turned (fun k => k = g) w w' := by
  have hth : w.there g o new.size := fun i hi => ⟨by rw [row_cell h, Array.getElem?_eq_getElem (by omega)]; rfl, row_frozen h _⟩
  exact ⟨_, run_storeAt_mid w g o T new hth hi h1, setCells_row _ _ _ _ _ _ h, turned_cellsI (p := fun k => k = g) (fun _ => rfl) _ _ _ (Turned.refl _ _)⟩
theorem vol_size : (Tryz.prog.info? 58).map (·.size) = some 7 := by kernel_rfl
def stVol (p v : Value) : Sem Unit := Instr.storeAt 58 p v
theorem stVol_eq (p v : Value) : Instr.storeAt 58 p v = stVol p v := rfl
def stPol (p v : Value) : Sem Unit := Instr.storeAt 36 p v
theorem stPol_eq (p v : Value) : Instr.storeAt 36 p v = stPol p v := rfl

/-- another volume -/
theorem StC.setVol {w w' : World} {g : Nat} {cs cs' : Array Value} {s : St} {K : Nat → Sl} {X : Nat → List Ck} (h : StC w g cs s K X) {i : Nat} (hi : i < 64) {v : Vol} {S : Sl} {Y : List Ck}
    (hr : w'.heap[g]? = some (.cells cs' 61 (0, 0))) (hsz : cs'.size = 465) (hoth : ∀ j, (j < 16 + i * 7 ∨ 16 + i * 7 + 7 ≤ j) → cs'[j]? = cs[j]?)
    (h0 : cs'[16 + i * 7]? = some (.int .i64 v.bl)) (h1 : cs'[16 + i * 7 + 1]? = some (.int .i64 v.p.re)) (h2 : cs'[16 + i * 7 + 2]? = some (.int .i64 v.p.we)) (h3 : cs'[16 + i * 7 + 3]? = some (.int .i64 v.p.li)) (h4 : cs'[16 + i * 7 + 4]? = some (.int .i64 v.p.bu))
    (h5 : cs'[16 + i * 7 + 5]? = some (.int .i64 v.ver)) (h6 : cs'[16 + i * 7 + 6]? = some (.slice S.A S.n S.c)) (hY : KsT w' S Y) (hd : Y.map Ck.dat = v.ks) (hk : ∀ q, q < 64 → q ≠ i → KsT w' (K q) (X q)) :
    StC w' g cs' (setV s i v) (updN K i S) (updN X i Y) := by
  refine ⟨hr, hsz, fun q hq => ?_, fun q hq => ?_, fun q hq => ?_, fun q hq => ?_, fun q hq => ?_, fun q hq => ?_, fun q hq => ?_, fun q hq => ?_, ?_, fun q hq => ?_, fun q hq => ?_⟩
  · rw [hoth _ (by omega)]; exact h.pk q hq
  · by_cases hqi : q = i
    · subst hqi; rw [setV_same]; exact h0
    · rw [hoth _ (by omega), setV_other hqi]; exact h.c0 q hq
  · by_cases hqi : q = i
    · subst hqi; rw [setV_same]; exact h1
    · rw [hoth _ (by omega), setV_other hqi]; exact h.c1 q hq
  · by_cases hqi : q = i
    · subst hqi; rw [setV_same]; exact h2
    · rw [hoth _ (by omega), setV_other hqi]; exact h.c2 q hq
  · by_cases hqi : q = i
    · subst hqi; rw [setV_same]; exact h3
    · rw [hoth _ (by omega), setV_other hqi]; exact h.c3 q hq
  · by_cases hqi : q = i
    · subst hqi; rw [setV_same]; exact h4
    · rw [hoth _ (by omega), setV_other hqi]; exact h.c4 q hq
  · by_cases hqi : q = i
    · subst hqi; rw [setV_same]; exact h5
    · rw [hoth _ (by omega), setV_other hqi]; exact h.c5 q hq
  · by_cases hqi : q = i
    · subst hqi; rw [updN_same]; exact h6
    · rw [hoth _ (by omega), updN_other hqi]; exact h.c6 q hq
  · rw [hoth _ (by omega)]; exact h.md
  · by_cases hqi : q = i
    · subst hqi; rw [updN_same, updN_same]; exact hY
    · rw [updN_other hqi, updN_other hqi]; exact hk q hq hqi
  · by_cases hqi : q = i
    · subst hqi; rw [updN_same, setV_same]; exact hd
    · rw [updN_other hqi, setV_other hqi]; exact h.dat q hq
/-- another capacity -/
theorem StC.setPk {w w' : World} {g : Nat} {cs : Array Value} {s : St} {K : Nat → Sl} {X : Nat → List Ck} (h : StC w g cs s K X) {n : Nat} (hn : n < 16) {x : Int}
    (hr : w'.heap[g]? = some (.cells (cs.setIfInBounds n (.int .i64 x)) 61 (0, 0))) (hk : ∀ q, q < 64 → KsT w' (K q) (X q)) :
    StC w' g (cs.setIfInBounds n (.int .i64 x)) { s with pk := fun i => if (i : Int) = (n : Int) then x else s.pk i } K X := by
  refine ⟨hr, by rw [Array.size_setIfInBounds]; exact h.size, fun q hq => ?_, fun q hq => ?_, fun q hq => ?_, fun q hq => ?_, fun q hq => ?_, fun q hq => ?_, fun q hq => ?_, fun q hq => ?_, ?_, hk, h.dat⟩
  · by_cases hqn : q = n
    · subst hqn; rw [set_get_same (by rw [h.size]; omega)]; simp
    · rw [set_get hqn, h.pk q hq]
      have : ¬ ((q : Int) = (n : Int)) := by omega
      simp [this]
  · rw [set_get (by omega)]; exact h.c0 q hq
  · rw [set_get (by omega)]; exact h.c1 q hq
  · rw [set_get (by omega)]; exact h.c2 q hq
  · rw [set_get (by omega)]; exact h.c3 q hq
  · rw [set_get (by omega)]; exact h.c4 q hq
  · rw [set_get (by omega)]; exact h.c5 q hq
  · rw [set_get (by omega)]; exact h.c6 q hq
  · rw [set_get (by omega)]; exact h.md
set_option maxRecDepth 100000 in
set_option maxHeartbeats 2000000 in
theorem VServer (g : Nat) (s : St) (c : Cmd) (w : World) (h : StAt w g s) (hc : CmdIn c) (hk : c.k = 1) :
    Calls Tryz.prog 51 #[.pointer (some ⟨g, 0, none⟩), cmdA c] w (DoRet g (doS s c) w) := by
  unfold cmdA
  obtain ⟨w1, hw1, hb1, hr1⟩ := cmd_box w c
  have c1 : w1.cell? ⟨w.heap.size, 1, none⟩ = some (.int .i64 c.a) := row_cell hr1 1
  have c2 : w1.cell? ⟨w.heap.size, 2, none⟩ = some (.int .i64 c.b) := row_cell hr1 2
  have Hb1 := Lib.hid hb1
  have hgl := h.lt
  obtain ⟨cs, K, X, h⟩ := h
  have H := Lib.hid (h.below hb1); have H0 := Lib.hid h
  have KW := Lib.hid (fun w => Vwithin c.a 0 15 w)
  have KI := Lib.hid (fun w => VisCapacity c.b w hc.hb)
  have e0 : doS s c = if decide (0 ≤ c.a ∧ c.a ≤ 15) && decide (1 ≤ c.b ∧ c.b ≤ 64) then ({ s with pk := fun i => if (i : Int) = c.a then c.b else s.pk i }, 0) else (s, 1) := by unfold doS; rw [if_pos hk]
  rw [e0]
  clear hb1 h hc e0 hk
  by_cases ha : 0 ≤ c.a ∧ c.a ≤ 15
  · rw [decide_eq_true ha] at KW ⊢
    by_cases hb : 1 ≤ c.b ∧ c.b ≤ 64
    · rw [decide_eq_true hb] at KI ⊢
      rw [if_pos (by decide)]
      obtain ⟨n, hn⟩ := Int.eq_ofNat_of_zero_le ha.1
      have hn16 : n < 16 := by omega
      have e1 : (fun i : Nat => if (i : Int) = c.a then c.b else s.pk i) = fun i : Nat => if (i : Int) = (n : Int) then c.b else s.pk i := by rw [hn]
      rw [e1]
      have i0 : (0 : Int) ≤ (n : Int) := by omega
      have i1 : (n : Int) < 16 := by omega
      have hn' : c.a = (n : Int) := hn
      rw [hn'] at c1
      have Hr1 := Lib.hid hr1; have Hn := Lib.hid hn'
      clear hr1 ha hb e1 hn hn'
      go_enter Tryz.func51, Tryz.ntmps51
      go_upto_region 3 with (first
        | (go_at_call 83; refine (KI.out _).mono ?_; rintro e w2 ⟨rfl, hb2⟩; have Hb2 := Lib.hid hb2; clear hb2)
        | (go_at_call 66; refine (show Calls _ _ #[.int .i64 (n : Int), .int .i64 0, .int .i64 15] _ _ from (by have := KW.out w1; rwa [Hn.out] at this)).mono ?_; rintro e w' ⟨rfl, rfl⟩))
      have h2 := H.out.below Hb2.out
      have hr2 := row_below Hr1.out Hb2.out
      have d1 : w2.drew.cell? ⟨w.heap.size, 1, none⟩ = some (.int .i64 (n : Int)) := by rw [← Hn.out]; exact row_cell (w := w2.drew) hr2 1
      have d2 : w2.drew.cell? ⟨w.heap.size, 2, none⟩ = some (.int .i64 c.b) := row_cell (w := w2.drew) hr2 2
      have z : w2.drew.frozen? ⟨g, n, none⟩ = false := row_frozen (w := w2.drew) h2.row n
      have d3 : w2.drew.cell? ⟨g, n, none⟩ = some (.int .i64 (s.pk n)) := (row_cell (w := w2.drew) h2.row n).trans (h2.pk n hn16)
      have H2 := Lib.hid h2
      clear h2 hr2 c1 c2
      go_region
      all_goals
        go_wp2
        go_ret
        have t3 : Turned (fun k => k = g) w2 (w2.drew.setCell ⟨g, n, none⟩ (.int .i64 c.b)) := ((Turned.of_below (p := fun k => k = g) (Below.refl _ _).drew).setCell (b := ⟨g, n, none⟩) (fun _ => rfl) _)
        refine ⟨rfl, fun _ => ⟨_, K, X, H2.out.setPk hn16 (row_set (w := w2.drew) H2.out.row n _) (fun q hq => (H2.out.ks q hq).turned t3 H2.out.noCk.1 H2.out.noCk.2)⟩, (Turned.of_below (p := fun k => k = g) (Hb1.out.trans (Hb2.out.mono Hb1.out.size))).trans t3 (fun _ e => e) (fun _ _ e => e)⟩
    · rw [decide_eq_false hb] at KI ⊢
      rw [if_neg (by decide)]
      go_enter Tryz.func51, Tryz.ntmps51
      go_wp2_with (first
        | (go_at_call 83; refine (KI.out _).mono ?_; rintro e w2 ⟨rfl, hb2⟩; have Hb2 := Lib.hid (Hb1.out.trans (hb2.mono Hb1.out.size)); clear hb2)
        | (go_at_call 66; refine (KW.out _).mono ?_; rintro e w' ⟨rfl, rfl⟩))
      go_ret
      exact DoRet.err Hb2.out (by decide)
  · rw [decide_eq_false ha] at KW ⊢
    rw [if_neg (by simp)]
    clear ha
    go_enter Tryz.func51, Tryz.ntmps51
    go_wp2_with (go_at_call 66; refine (KW.out _).mono ?_; rintro e w' ⟨rfl, rfl⟩)
    go_ret
    exact DoRet.err Hb1.out (by decide)

theorem isVol_nat {s : St} {a : Int} (h : isVol s a = true) : ∃ n : Nat, a = (n : Int) ∧ n < 64 ∧ (s.vs n).bl ≠ 0 := by
  simp only [isVol, Bool.and_eq_true, decide_eq_true_eq] at h
  obtain ⟨n, rfl⟩ := Int.eq_ofNat_of_zero_le h.1.1
  exact ⟨n, rfl, by omega, by simpa using h.2⟩
def bdVol (parts : Array (Nat × Value)) : Sem Value := Instr.build 58 parts
theorem bdVol_eq (parts : Array (Nat × Value)) : Instr.build 58 parts = bdVol parts := rfl
theorem bdVol_run0 (w : World) : (bdVol #[]).run Tryz.prog w = .ok (.agg #[.int .i64 0, .int .i64 0, .int .i64 0, .int .i64 0, .int .i64 0, .int .i64 0, .slice none 0 0]) w := by kernel_rfl
theorem bdVol_run (w : World) (b re we li bu ver : Int) : (bdVol #[(0, .int .i64 b), (1, .agg #[.int .i64 re, .int .i64 we, .int .i64 li, .int .i64 bu]), (2, .int .i64 ver)]).run Tryz.prog w = .ok (.agg #[.int .i64 b, .int .i64 re, .int .i64 we, .int .i64 li, .int .i64 bu, .int .i64 ver, .slice none 0 0]) w := by kernel_rfl
/-- a volume without chunks, stored whole -/
theorem vol_put {w : World} {g : Nat} {cs : Array Value} {s : St} {K : Nat → Sl} {X : Nat → List Ck} (h : StC w g cs s K X) {i : Nat} (hi : i < 64) (b ver : Int) (p : Pol) :
    ∃ w', (stVol (.pointer (some ⟨g, 16 + i * 7, none⟩)) (.agg #[.int .i64 b, .int .i64 p.re, .int .i64 p.we, .int .i64 p.li, .int .i64 p.bu, .int .i64 ver, .slice none 0 0])).run Tryz.prog w = .ok () w' ∧
      (∃ cs', StC w' g cs' (setV s i ⟨b, p, ver, []⟩) (updN K i Sl.nil) (updN X i [])) ∧ Turned (fun k => k = g) w w' := by
  obtain ⟨w', h1, h2, h3⟩ := st_mid (o := 16 + i * 7) (T := 58) (new := #[.int .i64 b, .int .i64 p.re, .int .i64 p.we, .int .i64 p.li, .int .i64 p.bu, .int .i64 ver, .slice none 0 0]) h.row (by rw [h.size]; simp; omega) vol_size (by simp [Value.oneCell'])
  refine ⟨w', h1, ⟨_, h.setVol (S := Sl.nil) (Y := []) hi h2 (by rw [putL_size]; exact h.size) (fun j hj => putL_other _ _ _ _ (by simpa using hj)) ?_ ?_ ?_ ?_ ?_ ?_ ?_ (KsT.nil _) rfl (fun q hq _ => (h.ks q hq).turned h3 h.noCk.1 h.noCk.2)⟩, h3⟩
  · exact putL_get _ cs (16 + i * 7) 0 _ rfl (by rw [h.size]; simp; omega)
  · exact putL_get _ cs (16 + i * 7) 1 _ rfl (by rw [h.size]; simp; omega)
  · exact putL_get _ cs (16 + i * 7) 2 _ rfl (by rw [h.size]; simp; omega)
  · exact putL_get _ cs (16 + i * 7) 3 _ rfl (by rw [h.size]; simp; omega)
  · exact putL_get _ cs (16 + i * 7) 4 _ rfl (by rw [h.size]; simp; omega)
  · exact putL_get _ cs (16 + i * 7) 5 _ rfl (by rw [h.size]; simp; omega)
  · exact putL_get _ cs (16 + i * 7) 6 _ rfl (by rw [h.size]; simp; omega)
attribute [local go_sem ↓] stVol_eq
attribute [local go_sem ↓] bdVol_eq
set_option maxRecDepth 100000 in
set_option maxHeartbeats 2000000 in
theorem VRemove (g : Nat) (s : St) (c : Cmd) (w : World) (h : StAt w g s) (hk : c.k = 3) :
    Calls Tryz.prog 53 #[.pointer (some ⟨g, 0, none⟩), cmdA c] w (DoRet g (doS s c) w) := by
  unfold cmdA
  obtain ⟨w1, hw1, hb1, hr1⟩ := cmd_box w c
  have c1 : w1.cell? ⟨w.heap.size, 1, none⟩ = some (.int .i64 c.a) := row_cell hr1 1
  have Hb1 := Lib.hid hb1
  have hbd := bdVol_run0
  have e0 : doS s c = if isVol s c.a then (setV s c.a.toNat vol0, 0) else (s, 7) := by unfold doS; rw [if_neg (by omega), if_neg (by omega), if_pos hk]
  rw [e0]
  by_cases hv : isVol s c.a = true
  · rw [if_pos hv]
    obtain ⟨n, hn, hn64, _⟩ := isVol_nat hv
    have et : c.a.toNat = n := by omega
    rw [et]
    rw [hn] at hv c1
    have KV := Lib.hid (Vvolume_yes g s n w1 (h.below hb1) hv)
    obtain ⟨cs, K, X, h1⟩ := h.below hb1
    obtain ⟨w2, hst, ⟨cs', hs2⟩, ht2⟩ := vol_put h1 hn64 0 0 pol0
    have Hs2 := Lib.hid hs2; have Ht2 := Lib.hid ht2
    simp only [pol0] at hst
    clear h hb1 hr1 hv hn h1 hs2 ht2 hk e0 et
    go_enter Tryz.func53, Tryz.ntmps53
    go_wp2_with (go_at_call 29; refine KV.out.mono ?_; rintro e w3 ⟨rfl, rfl⟩)
    go_ret
    exact ⟨rfl, fun _ => ⟨_, _, _, Hs2.out⟩, (Turned.of_below (p := fun k => k = g) Hb1.out).trans Ht2.out (fun _ e => e) (fun _ _ e => e)⟩
  · rw [if_neg hv]
    have KV := Lib.hid (Vvolume_no g s c.a w1 (h.below hb1) (by simpa using hv))
    clear h hb1 hr1 hv hk e0
    go_enter Tryz.func53, Tryz.ntmps53
    go_wp2_with (go_at_call 29; refine KV.out.mono ?_; rintro e w3 ⟨rfl, rfl⟩)
    go_ret
    exact DoRet.err Hb1.out (by decide)
attribute [local go_sem ↓] stPol_eq
attribute [local go_sem ↓] ldPol_eq
set_option maxRecDepth 100000 in
set_option maxHeartbeats 2000000 in
theorem VChange (g : Nat) (s : St) (c : Cmd) (w : World) (h : StAt w g s) (hf : StFit s) (hc : CmdIn c) (hk : c.k = 5) :
    Calls Tryz.prog 55 #[.pointer (some ⟨g, 0, none⟩), cmdA c] w (DoRet g (doS s c) w) := by
  unfold cmdA
  obtain ⟨w1, hw1, hb1, hr1⟩ := cmd_box w c
  have c1 : w1.cell? ⟨w.heap.size, 1, none⟩ = some (.int .i64 c.a) := row_cell hr1 1
  have hat : PolAt w1 w.heap.size 4 c.p := ⟨row_cell hr1 4, row_cell hr1 5, row_cell hr1 6, row_cell hr1 7, hc.hp⟩
  have hld := ldPol_run hat
  have Hb1 := Lib.hid hb1; have Hr1 := Lib.hid hr1; have Hat := Lib.hid hat
  have KR := Lib.hid (Right_any c.p w1)
  have e0 : doS s c = if rightP c.p = false then (s, 1) else if isVol s c.a = false then (s, 7) else (setV s c.a.toNat { s.vs c.a.toNat with p := c.p, ver := (s.vs c.a.toNat).ver + 1 }, 0) := by unfold doS; rw [if_neg (by omega), if_neg (by omega), if_neg (by omega), if_neg (by omega), if_pos hk]
  rw [e0]
  have H := Lib.hid (h.below hb1)
  clear h hb1 hr1 hc e0 hk hat
  by_cases hr : rightP c.p = false
  · rw [if_pos hr]
    rw [hr] at KR
    clear hr
    go_enter Tryz.func55, Tryz.ntmps55
    go_wp2_with (go_at_call 85; refine KR.out.mono ?_; rintro e w2 ⟨rfl, hb2⟩; have Hb2 := Lib.hid (Hb1.out.trans (hb2.mono Hb1.out.size)); clear hb2)
    go_ret
    exact DoRet.err Hb2.out (by decide)
  · rw [if_neg hr]
    have hr : rightP c.p = true := by simpa using hr
    rw [hr] at KR
    clear hr
    by_cases hv : isVol s c.a = false
    · rw [if_pos hv]
      have KV := Lib.hid (fun W (hb : Below w1.heap.size w1 W) => Vvolume_no g s c.a W (H.out.below hb) hv)
      clear hv
      go_enter Tryz.func55, Tryz.ntmps55
      go_wp2_with fail
      refine KR.out.mono ?_
      rintro e w2 ⟨rfl, hb2⟩
      have d1 : w2.cell? ⟨w.heap.size, 1, none⟩ = some (.int .i64 c.a) := row_cell (row_below Hr1.out hb2) 1
      have KV2 := Lib.hid (KV.out w2 hb2)
      have Hb2 := Lib.hid (Hb1.out.trans (hb2.mono Hb1.out.size))
      clear hb2
      go_wp2_with (go_at_call 29; refine KV2.out.mono ?_; rintro e w3 ⟨rfl, rfl⟩)
      go_ret
      exact DoRet.err Hb2.out (by decide)
    · rw [if_neg hv]
      have hv : isVol s c.a = true := by simpa using hv
      obtain ⟨n, hn, hn64, _⟩ := isVol_nat hv
      have et : c.a.toNat = n := by omega
      rw [et]
      rw [hn] at hv
      have KV := Lib.hid (fun W (hb : Below w1.heap.size w1 W) => Vvolume_yes g s n W (H.out.below hb) hv)
      have hver := (hf.vs n hn64).ver
      have Hn := Lib.hid hn
      clear hv hn et hf
      go_enter Tryz.func55, Tryz.ntmps55
      go_wp2_with fail
      refine KR.out.mono ?_
      rintro e w2 ⟨rfl, hb2⟩
      have d1 : w2.cell? ⟨w.heap.size, 1, none⟩ = some (.int .i64 (n : Int)) := by rw [← Hn.out]; exact row_cell (row_below Hr1.out hb2) 1
      have hld2 := ldPol_run (Hat.out.below hb2)
      have KV2 := Lib.hid (KV.out w2 hb2)
      obtain ⟨cs, K, X, h2⟩ := H.out.below hb2
      obtain ⟨w3, hst3, hr3, ht3⟩ := st_mid (o := 16 + n * 7 + 1) (T := 36) (new := #[.int .i64 c.p.re, .int .i64 c.p.we, .int .i64 c.p.li, .int .i64 c.p.bu]) h2.row (by rw [h2.size]; simp; omega) pol_info (by simp [Value.oneCell'])
      rw [stPol_eq] at hst3
      have hsz : (putL cs (16 + n * 7 + 1) [.int .i64 c.p.re, .int .i64 c.p.we, .int .i64 c.p.li, .int .i64 c.p.bu]).size = 465 := by rw [putL_size]; exact h2.size
      obtain ⟨cs3, hcs3⟩ : ∃ cs3, putL cs (16 + n * 7 + 1) [.int .i64 c.p.re, .int .i64 c.p.we, .int .i64 c.p.li, .int .i64 c.p.bu] = cs3 := ⟨_, rfl⟩
      have hoth : ∀ j, (j < 16 + n * 7 + 1 ∨ 16 + n * 7 + 5 ≤ j) → cs3[j]? = cs[j]? := fun j hj => by rw [← hcs3]; exact putL_other _ _ _ _ (by simpa using hj)
      have hg1 : cs3[16 + n * 7 + 1]? = some (.int .i64 c.p.re) := by rw [← hcs3]; exact putL_get _ _ _ 0 _ rfl (by rw [h2.size]; simp; omega)
      have hg2 : cs3[16 + n * 7 + 2]? = some (.int .i64 c.p.we) := by rw [← hcs3]; exact putL_get _ _ _ 1 _ rfl (by rw [h2.size]; simp; omega)
      have hg3 : cs3[16 + n * 7 + 3]? = some (.int .i64 c.p.li) := by rw [← hcs3]; exact putL_get _ _ _ 2 _ rfl (by rw [h2.size]; simp; omega)
      have hg4 : cs3[16 + n * 7 + 4]? = some (.int .i64 c.p.bu) := by rw [← hcs3]; exact putL_get _ _ _ 3 _ rfl (by rw [h2.size]; simp; omega)
      have hr3' : w3.heap[g]? = some (.cells cs3 61 (0, 0)) := by rw [← hcs3]; exact hr3
      rw [hcs3] at hsz
      have v5 : w3.cell? ⟨g, 16 + n * 7 + 5, none⟩ = some (.int .i64 (s.vs n).ver) := by rw [row_cell hr3', hoth _ (by omega)]; exact h2.c5 n hn64
      have z5 : w3.frozen? ⟨g, 16 + n * 7 + 5, none⟩ = false := row_frozen hr3' _
      have H2 := Lib.hid h2; have Hr3 := Lib.hid hr3'; have Ht3 := Lib.hid ht3; have Hoth := Lib.hid hoth; have Hg := Lib.hid (And.intro hg1 (And.intro hg2 (And.intro hg3 hg4))); have Hsz := Lib.hid hsz
      have Hb2 := Lib.hid (Hb1.out.trans (hb2.mono Hb1.out.size))
      clear hb2 h2 hr3 hr3' ht3 hoth hg1 hg2 hg3 hg4 hsz hcs3
      go_wp2_with (go_at_call 29; refine KV2.out.mono ?_; rintro e w3 ⟨rfl, rfl⟩)
      go_ret
      have t4 : Turned (fun k => k = g) w2 (w3.setCell ⟨g, 16 + n * 7 + 5, none⟩ (.int .i64 ((s.vs n).ver + 1))) := (Ht3.out.trans (r := fun k => k = g) ((Turned.refl (fun k => k = g) w3).setCell (b := ⟨g, 16 + n * 7 + 5, none⟩) (fun _ => rfl) _) (fun _ e => e) (fun _ _ e => e))
      obtain ⟨g1, g2, g3, g4⟩ := Hg.out
      refine ⟨rfl, fun _ => ⟨_, _, _, H2.out.setVol (v := { s.vs n with p := c.p, ver := (s.vs n).ver + 1 }) (S := K n) (Y := X n) hn64 (row_set Hr3.out _ _) (by rw [Array.size_setIfInBounds]; exact Hsz.out) (fun j hj => by rw [set_get (by omega)]; exact Hoth.out j (by omega)) ?_ ?_ ?_ ?_ ?_ ?_ ?_ ((H2.out.ks n hn64).turned t4 H2.out.noCk.1 H2.out.noCk.2) (H2.out.dat n hn64) (fun q hq _ => (H2.out.ks q hq).turned t4 H2.out.noCk.1 H2.out.noCk.2)⟩, (Turned.of_below (p := fun k => k = g) Hb2.out).trans t4 (fun _ e => e) (fun _ _ e => e)⟩
      · rw [set_get (by omega), Hoth.out _ (by omega)]; exact H2.out.c0 n hn64
      · rw [set_get (by omega)]; exact g1
      · rw [set_get (by omega)]; exact g2
      · rw [set_get (by omega)]; exact g3
      · rw [set_get (by omega)]; exact g4
      · rw [set_get_same (by rw [Hsz.out]; omega)]
      · rw [set_get (by omega), Hoth.out _ (by omega)]; exact H2.out.c6 n hn64
end Go.Proofs.YtmdmpliiiecmlaaGreat
end

section
namespace Go.Proofs.YtmdmpliiiecmlaaGreat
open Go.ChangeShapes Go.WideShapes Go.ChangeAt Go.RowKit Go.Sort
set_option linter.unusedVariables false

theorem VGrow (n : Nat) (w : World) (hn : n ≤ 1000) :
    Calls Tryz.prog 130 #[.slice none 0 0, .int .i64 (n : Int)] w fun e w' => ∃ A c, e = .returned (.slice A 0 c) ∧ w'.ownsRow w.heap.size 3 1 (.slice A 0 c) 0 [] ∧ Below w.heap.size w w' := by
  by_cases h0 : n = 0
  · subst h0
    refine (Any8.slices_Grow_room Tryz.growA none 0 0 0 w (by omega) (by omega) (by omega) (by omega)).mono ?_
    rintro e w' ⟨rfl, rfl⟩
    exact ⟨none, 0, rfl, World.ownsRow_nil _ _ _ _, Below.refl _ _⟩
  · obtain ⟨i0, hi, hz, hs, hb⟩ := info_parts int_info
    refine (Any8.slices_Grow_grow Tryz.growA i0 _ hi hz (by rw [hs]; omega) none 0 0 n [] w (by omega) (by omega) (by rw [hb]; omega) (by omega) (by simp) (fun _ => rfl) (fun a h => by cases h)).mono ?_
    rintro e w' ⟨rfl, rfl⟩
    refine ⟨_, _, rfl, ⟨by simp, .inr ⟨w.heap.size, _, _, rfl, Nat.le_refl _, heap_alloc_new w.drew _, by omega, ?_, ?_, by simp⟩⟩, (Below.refl _ _).drew.alloc (Nat.le_refl _) _⟩
    · exact grownCap_le_maxLen _ _ _ _ (by unfold maxLen; omega)
    · have := grownCap_ge w n 0 (Tryz.growA_ren.t 25)
      simp [size_zeroCells, Value.cells]
      omega
def sumN (n1 n2 i : Nat) : Nat := if i = 0 then 0 else if i = 1 then n1 else n1 + n2
set_option maxRecDepth 100000 in
set_option maxHeartbeats 2000000 in
theorem VConcat (s t : Sl) (us vs : List Int) (g : Nat) (w : World) (hg : w.cell? ⟨g, 0, none⟩ = some (.slice s.A s.n s.c)) (hg1 : w.cell? ⟨g, 1, none⟩ = some (.slice t.A t.n t.c)) (h : IntsT w s us) (k : IntsT w t vs) (hl : us.length ≤ 100) (hl2 : vs.length ≤ 100) :
    Calls Tryz.prog 105 #[.slice (some ⟨g, 0, none⟩) 2 2] w (IntsRet (us ++ vs) w) := by
  obtain ⟨A1, n1, c1⟩ := s
  obtain ⟨A2, n2, c2⟩ := t
  have e1 := h.len; have e2 := k.len
  simp only at e1 e2 hg hg1
  have h1 : n1 ≤ 100 := by omega
  have h2 : n2 ≤ 100 := by omega
  have HS := Lib.hid h.see.1; have HT := Lib.hid k.see.1; have G0 := Lib.hid hg; have G1 := Lib.hid hg1; have E1 := Lib.hid e1; have E2 := Lib.hid e2
  have hgl := block_lt_of_cell hg
  clear h k e1 e2 hg hg1 hl hl2
  go_enter Tryz.func105, Tryz.ntmps105
  go_wp2
  go_loopw [3, 11] (fun zv iv wr => ∃ i : Nat, i ≤ 2 ∧ iv = .int .i64 (i : Int) ∧ zv = .int .i64 (sumN n1 n2 i : Nat) ∧ wr = w) (fun zv iv _ => 2 - (intOf iv).toNat)
  case atStart => exact ⟨0, by omega, rfl, rfl, rfl⟩
  case round =>
    obtain ⟨i, hi, rfl, rfl, rfl⟩ := hrel
    rcases (by omega : i = 0 ∨ i = 1 ∨ i = 2) with rfl | rfl | rfl
    · have g0 := G0.out
      have e0 : sumN n1 n2 0 = 0 := rfl
      rw [e0]
      clear e0
      have hz : (0 : Int) ≤ (n1 : Int) := by omega
      have hz2 : ¬ ((n1 : Int) < 0) := by omega
      go_wp2
      go_roundw
      case rel => exact ⟨1, by omega, by go_num, rfl, trivial⟩
      case measure => simp [intOf]
    · have g1 := G1.out
      have e0 : sumN n1 n2 1 = n1 := rfl
      rw [e0]
      clear e0
      have hz2 : ¬ ((n1 : Int) + (n2 : Int) < 0) := by omega
      go_wp2
      go_roundw
      case rel => exact ⟨2, by omega, by go_num, by show _ = Value.int .i64 ((n1 + n2 : Nat) : Int); rw [Int.natCast_add], trivial⟩
      case measure => simp [intOf]
    · have e0 : sumN n1 n2 2 = n1 + n2 := rfl
      rw [e0]
      clear e0
      obtain ⟨n, hn⟩ : ∃ n, n1 + n2 = n := ⟨_, rfl⟩
      have hn2 : n ≤ 200 := by omega
      rw [hn]
      have KG := Lib.hid (VGrow n wr (by omega))
      have Hn := Lib.hid hn
      clear hn
      go_wp2_with (go_at_call 130; refine KG.out.mono ?_; rintro e w1 ⟨A0, c0, rfl, hown0, hb0⟩; have Hown0 := Lib.hid hown0; have Hb0 := Lib.hid hb0; clear hown0 hb0)
      have hgw : g < wr.heap.size := hgl
      obtain ⟨wo, hwo⟩ : ∃ wo : World, wo = wr := ⟨_, rfl⟩
      rw [← hwo] at Hown0 Hb0 HS HT G0 G1
      go_loopw [6, 27] (fun sv iv wq => ∃ (i : Nat) (A' : Option Addr) (c' : Nat), i ≤ 2 ∧ iv = .int .i64 (i : Int) ∧ sv = .slice A' (sumN n1 n2 i) c' ∧ wq.ownsRow wo.heap.size 3 1 (.slice A' (sumN n1 n2 i) c') (sumN n1 n2 i) (numsV ((us ++ vs).take (sumN n1 n2 i))) ∧ Below wo.heap.size wo wq) (fun sv iv _ => 2 - (intOf iv).toNat)
      case atStart => exact ⟨0, _, _, by omega, rfl, rfl, by simpa [sumN, numsV] using Hown0.out, Hb0.out⟩
      case round =>
        obtain ⟨i, A', c', hi, rfl, rfl, ho, hb⟩ := hrel
        rcases (by omega : i = 0 ∨ i = 1 ∨ i = 2) with rfl | rfl | rfl
        · have e0 : sumN n1 n2 0 = 0 := rfl
          rw [e0] at ho ⊢
          have et : (us ++ vs).take 0 = ([] : List Int) := by simp
          rw [et] at ho
          have gg : wr.cell? ⟨g, 0, none⟩ = some (.slice A1 n1 c1) := by rw [hb.cell (p := ⟨g, 0, none⟩) (by rw [hwo]; exact hgl)]; exact G0.out
          have hss := HS.out.below hb
          have hne : (numsV us).length = n1 := by rw [numsV_length]; exact E1.out
          have Ho := Lib.hid ho; have Hb := Lib.hid hb; have Hss := Lib.hid hss; have Hne := Lib.hid hne
          clear ho hb hss hne e0 et
          go_wp2_with (at_builtin; refine wpList_app2 rfl (.tmp 31) (.tmp 32) _ rfl 3 _ 8 Tryz.underlying27 int_info rfl wo.heap.size A' 0 c' (numsV ([] : List Int)) rfl Ho.out A1 n1 c1 (numsV us) rfl Hne.out Hss.out (numsV_one _) (by unfold maxLen; omega) (by omega) Hb.out.size ?_; intro A4 c4 w4 hown4 hg4 hbk4; have Hown4 := Lib.hid hown4; have Hg4 := Lib.hid hg4; clear hown4 hg4 hbk4)
          go_roundw
          case rel =>
            have tg : Turned (fun k => (Value.slice A' 0 c').ownBlock = some k) wr w4 := Turned.of_grown Hg4.out fun k e => e
            have e1 : sumN n1 n2 (0 + 1) = 0 + n1 := by simp [sumN]
            refine ⟨0 + 1, A4, c4, by omega, by go_num, by rw [e1, Nat.zero_add], ?_, Hb.out.trans (tg.below (fun k e => (Ho.out.lt k e).1) Hb.out.size)⟩
            rw [e1]
            have := Hown4.out
            rw [← numsV_append] at this
            have ee : (us ++ vs).take (0 + n1) = ([] : List Int) ++ us := by rw [Nat.zero_add, ← E1.out, List.take_left]; rfl
            rw [ee]
            exact this
          case measure => simp [intOf]
        · have e0 : sumN n1 n2 1 = n1 := rfl
          rw [e0] at ho ⊢
          have et : (us ++ vs).take n1 = us := by rw [← E1.out, List.take_left]
          rw [et] at ho
          have gg : wr.cell? ⟨g, 1, none⟩ = some (.slice A2 n2 c2) := by rw [hb.cell (p := ⟨g, 1, none⟩) (by rw [hwo]; exact hgl)]; exact G1.out
          have hss := HT.out.below hb
          have hne : (numsV vs).length = n2 := by rw [numsV_length]; exact E2.out
          have Ho := Lib.hid ho; have Hb := Lib.hid hb; have Hss := Lib.hid hss; have Hne := Lib.hid hne
          clear ho hb hss hne e0 et
          go_wp2_with (at_builtin; refine wpList_app2 rfl (.tmp 31) (.tmp 32) _ rfl 3 _ 8 Tryz.underlying27 int_info rfl wo.heap.size A' n1 c' (numsV us) rfl Ho.out A2 n2 c2 (numsV vs) rfl Hne.out Hss.out (numsV_one _) (by unfold maxLen; omega) (by omega) Hb.out.size ?_; intro A4 c4 w4 hown4 hg4 hbk4; have Hown4 := Lib.hid hown4; have Hg4 := Lib.hid hg4; clear hown4 hg4 hbk4)
          go_roundw
          case rel =>
            have tg : Turned (fun k => (Value.slice A' n1 c').ownBlock = some k) wr w4 := Turned.of_grown Hg4.out fun k e => e
            have e1 : sumN n1 n2 (1 + 1) = n1 + n2 := by simp [sumN]
            refine ⟨1 + 1, A4, c4, by omega, by go_num, by rw [e1], ?_, Hb.out.trans (tg.below (fun k e => (Ho.out.lt k e).1) Hb.out.size)⟩
            rw [e1]
            have := Hown4.out
            rw [← numsV_append] at this
            have ee : (us ++ vs).take (n1 + n2) = us ++ vs := by rw [List.take_of_length_le (by rw [List.length_append, E1.out, E2.out]; exact Nat.le_refl _)]
            rw [ee]
            exact this
          case measure => simp [intOf]
        · have e0 : sumN n1 n2 2 = n1 + n2 := rfl
          rw [e0] at ho ⊢
          have et : (us ++ vs).take (n1 + n2) = us ++ vs := by rw [List.take_of_length_le (by rw [List.length_append, E1.out, E2.out]; exact Nat.le_refl _)]
          rw [et] at ho
          have Ho := Lib.hid ho; have Hb := Lib.hid hb
          clear ho hb et e0
          go_wp2
          go_ret
          subst hwo
          exact ⟨⟨A', n1 + n2, c'⟩, rfl, Ho.out, Hb.out⟩
end Go.Proofs.YtmdmpliiiecmlaaGreat
end

section
namespace Go.Proofs.YtmdmpliiiecmlaaGreat
open Go.ChangeShapes Go.WideShapes Go.ChangeAt Go.RowKit
set_option linter.unusedVariables false

/-- the array at g: how often each server stands in L -/
def ManyAt (w : World) (g : Nat) (L : List Int) : Prop := ∃ cs, w.heap[g]? = some (.cells cs 56 (0, 0)) ∧ cs.size = 16 ∧ ∀ i, i < 16 → cs[i]? = some (.int .i64 (L.count (i : Int) : Nat))
def z16 : Array Value := Array.replicate 16 (.int .i64 0)
def z16V : Value := .agg z16
theorem z16_run (w : World) : (zeroValue 56).run Tryz.prog w = .ok (.agg z16) w := (zero_of_info (n := 16) (v := z16V) (by kernel_rfl)).1 w
theorem ManyAt.new (w : World) : ManyAt (w.alloc (.cells z16 56)) w.heap.size [] :=
  ⟨z16, heap_alloc_new _ _, by simp [z16], fun i hi => by simp [z16, hi]⟩
theorem ManyAt.turned {p : Nat → Prop} {w w' : World} {g : Nat} {L : List Int} (h : ManyAt w g L) (ht : Turned p w w') (hp : ¬ p g) : ManyAt w' g L := by
  obtain ⟨cs, h1, h2⟩ := h
  exact ⟨cs, ht.heap h1 hp, h2⟩
theorem ManyAt.below {w w' : World} {g : Nat} {L : List Int} (h : ManyAt w g L) (hb : Below w.heap.size w w') : ManyAt w' g L := h.turned (p := fun _ => False) (.of_below hb) id
theorem ManyAt.cell {w : World} {g : Nat} {L : List Int} (h : ManyAt w g L) {i : Nat} (hi : i < 16) : w.cell? ⟨g, i, none⟩ = some (.int .i64 (L.count (i : Int) : Nat)) := by
  obtain ⟨cs, h1, h2, h3⟩ := h
  rw [row_cell h1 i]; exact h3 i hi
theorem ManyAt.thaw {w : World} {g : Nat} {L : List Int} (h : ManyAt w g L) (i : Nat) : w.frozen? ⟨g, i, none⟩ = false := by
  obtain ⟨cs, h1, h2, h3⟩ := h
  exact row_frozen h1 i
theorem ManyAt.lt {w : World} {g : Nat} {L : List Int} (h : ManyAt w g L) : g < w.heap.size := by
  obtain ⟨cs, h1, _⟩ := h
  exact (Array.getElem?_eq_some_iff.1 h1).1
/-- one more -/
theorem ManyAt.more {w : World} {g : Nat} {L : List Int} (h : ManyAt w g L) {k : Nat} (hk : k < 16) : ManyAt (w.setCell ⟨g, k, none⟩ (.int .i64 ((L.count (k : Int) : Nat) + 1 : Int))) g (L ++ [(k : Int)]) := by
  obtain ⟨cs, h1, h2, h3⟩ := h
  refine ⟨_, row_set h1 k _, by simpa using h2, fun i hi => ?_⟩
  rw [List.count_append]
  by_cases e : i = k
  · subst e
    rw [set_get_same (by omega)]
    simp
  · rw [set_get e, h3 i hi]
    have : ¬ ((k : Int) = (i : Int)) := by omega
    simp [this]
def manyL (L : List Int) : List Value := (List.range 16).map fun (i : Nat) => .int .i64 (L.count (i : Int) : Nat)
theorem manyL_get (L : List Int) {i : Nat} (hi : i < 16) : (manyL L)[i]? = some (.int .i64 (L.count (i : Int) : Nat)) := by
  unfold manyL
  rw [List.getElem?_map, List.getElem?_range hi]
  rfl
theorem manyL_length (L : List Int) : (manyL L).length = 16 := by simp [manyL]
/-- it, as a value -/
def manyA (L : List Int) : Array Value := (manyL L).toArray
theorem manyA_one (L : List Int) : (manyA L).all (·.oneCell') = true := by
  unfold manyA
  refine all_oneCell_toArray fun v hv => ?_
  simp only [manyL, List.mem_map] at hv
  obtain ⟨i, _, rfl⟩ := hv
  rfl
theorem manyA_at {w : World} {g : Nat} {L : List Int} (h : w.heap[g]? = some (.cells (manyA L) 56 (0, 0))) : ManyAt w g L :=
  ⟨_, h, by simp [manyA, manyL_length], fun i hi => by rw [manyA, List.getElem?_toArray]; exact manyL_get L hi⟩
theorem ldPk_many {w : World} {g : Nat} {L : List Int} (h : ManyAt w g L) : (ldPk (.pointer (some ⟨g, 0, none⟩))).run Tryz.prog w = .ok (.agg (manyA L)) w := by
  have hr : w.rangeAt g 0 (manyL L) := fun j v hv => by
    have hj : j < 16 := by have := (List.getElem?_eq_some_iff.1 hv).1; rwa [manyL_length] at this
    rw [manyL_get L hj] at hv
    rw [Nat.zero_add, h.cell hj]
    exact hv
  exact run_loadAt_mid w g 0 56 (manyL L) _ hr Tryz.underlying56 rfl (by rw [manyL_length]; exact pk_info)
def stPk (p v : Value) : Sem Unit := Instr.storeAt 56 p v
theorem stPk_eq (p v : Value) : Instr.storeAt 56 p v = stPk p v := rfl
theorem stPk_run {w : World} {g : Nat} {cs : Array Value} (h : w.heap[g]? = some (.cells cs 56 (0, 0))) (hs : cs.size = 16) (L : List Int) :
    ∃ w', (stPk (.pointer (some ⟨g, 0, none⟩)) (.agg (manyA L))).run Tryz.prog w = .ok () w' ∧ w'.heap[g]? = some (.cells (manyA L) 56 (0, 0)) ∧ Turned (fun k => k = g) w w' :=
  st_row (T := 56) h (by rw [hs]; simp [manyA, manyL_length]) (by rw [show (manyA L).size = 16 by simp [manyA, manyL_length]]; exact pk_info) (manyA_one L)

theorem flatK_take {l : List Chk} {j : Nat} {k : Chk} (h : l[j]? = some k) : flatK (l.take (j + 1)) = flatK (l.take j) ++ (k.ms ++ k.js) := by
  obtain ⟨hk, rfl⟩ := List.getElem?_eq_some_iff.1 h
  rw [List.take_succ_eq_append_getElem hk, flatK_append]
  simp [flatK]
theorem flatK_len {l : List Chk} (h : ∀ k ∈ l, ChkFit k) : (flatK l).length ≤ l.length * 32 := by
  induction l with
  | nil => simp [flatK]
  | cons k r ih =>
    have h1 := ih fun q hq => h q (List.mem_cons_of_mem _ hq)
    have h2 := h k (List.mem_cons_self ..)
    have h3 := h2.ml
    have h4 := h2.jl
    have e : flatK (k :: r) = (k.ms ++ k.js) ++ flatK r := by simp [flatK]
    rw [e, List.length_append, List.length_append, List.length_cons]
    omega
theorem allKs_fit {s : St} (h : StFit s) {n : Nat} (hn : n ≤ 64) : ∀ k ∈ allKs s n, ChkFit k := fun k hk => by
  obtain ⟨i, hi, hk⟩ := List.mem_flatMap.1 hk
  have := List.mem_range.1 hi
  exact (h.vs i (by omega)).ks k hk
attribute [local go_sem ↓] ldCk_eq
attribute [local go_sem ↓] stCk_eq
attribute [local go_sem ↓] ldPk_eq
attribute [local go_sem ↓] stPk_eq
set_option maxRecDepth 100000 in
set_option maxHeartbeats 4000000 in
theorem Vhaving (g : Nat) (s : St) (w : World) (h : StAt w g s) (hf : StFit s) :
    Calls Tryz.prog 110 #[.pointer (some ⟨g, 0, none⟩)] w fun e w' => e = .returned (.agg (manyA (flatK (allKs s 64)))) ∧ Below w.heap.size w w' := by
  have hz := z16_run
  obtain ⟨w1, hw1⟩ : ∃ w1, w.alloc (.cells z16 56) = w1 := ⟨_, rfl⟩
  have hb1 : Below w.heap.size w w1 := by rw [← hw1]; exact below_box _ _
  have hr1 : w1.heap[w.heap.size]? = some (.cells z16 56 (0, 0)) := by rw [← hw1]; exact heap_alloc_new _ _
  obtain ⟨w2, hw2⟩ : ∃ w2, w1.alloc (.cells z16 56) = w2 := ⟨_, rfl⟩
  have hb2 : Below w1.heap.size w1 w2 := by rw [← hw2]; exact below_box _ _
  have hm2 : ManyAt w2 w1.heap.size [] := by rw [← hw2]; exact ManyAt.new w1
  obtain ⟨cs, K, X, h⟩ := h
  have H := Lib.hid h; have Hf := Lib.hid hf; have Hr2 := Lib.hid (row_below hr1 hb2); have Hb2 := Lib.hid (hb1.trans (hb2.mono hb1.size)); have Hm2 := Lib.hid hm2
  have hs1 : w.heap.size < w1.heap.size := (Array.getElem?_eq_some_iff.1 hr1).1
  clear h hf hb1 hr1 hb2 hm2
  go_enter Tryz.func110, Tryz.ntmps110
  go_wp2
  go_loopw [9] (fun iv wr => ∃ i : Nat, i ≤ 64 ∧ iv = .int .i64 (i : Int) ∧ ManyAt wr w1.heap.size (flatK (allKs s i)) ∧ wr.heap[w.heap.size]? = some (.cells z16 56 (0, 0)) ∧ Below w.heap.size w wr) (fun iv _ => 64 - (intOf iv).toNat)
  case atStart => exact ⟨0, by omega, rfl, Hm2.out, Hr2.out, Hb2.out⟩
  case round =>
    obtain ⟨i, hin, rfl, hm, hr, hb⟩ := hrel
    obtain ⟨wo, hwo⟩ : ∃ wo : World, wo = wr := ⟨_, rfl⟩
    rw [← hwo] at hm hr hb ⊢
    clear hwo
    by_cases hi : i < 64
    · have ho := H.out.below hb
      have i0 : (0 : Int) ≤ (i : Int) := by omega
      have i1 : (i : Int) < 64 := by omega
      have c6 : wo.cell? ⟨g, 16 + i * 7 + 6, none⟩ = some (.slice (K i).A (K i).n (K i).c) := by rw [ho.cell]; exact ho.c6 i hi
      have hvf := Hf.out.vs i hi
      have hkl := hvf.kl
      have hlen := ho.len hi
      have hafl := flatK_len (allKs_fit Hf.out (n := i) (by omega))
      have hal := allKs_len Hf.out i (by omega)
      obtain ⟨L0, hL0⟩ : ∃ L0, allKs s i = L0 := ⟨_, rfl⟩
      rw [hL0] at hm hafl hal
      obtain ⟨ks, hks⟩ : ∃ ks, (s.vs i).ks = ks := ⟨_, rfl⟩
      rw [hks] at hlen hkl
      have Hks := Lib.hid hks; have HL0 := Lib.hid hL0; have Hvf := Lib.hid hvf; have Ho := Lib.hid ho; have Hb := Lib.hid hb; have Hm := Lib.hid hm; have Hr := Lib.hid hr; have Hlen := Lib.hid hlen
      have hn64 : (K i).n ≤ 64 := by omega
      obtain ⟨S, hS⟩ : ∃ S, K i = S := ⟨_, rfl⟩
      have HS := Lib.hid hS
      rw [hS] at c6 hn64 Hlen
      clear ho hb hm hr hlen hks hL0 hvf hS hkl
      obtain ⟨A0, n, c0⟩ := S
      simp only at c6 hn64 Hlen
      go_wp2
      go_loopw [20] (fun jv wr => ∃ j : Nat, j ≤ n ∧ jv = .int .i64 (j : Int) ∧ ManyAt wr w1.heap.size (flatK (L0 ++ ks.take j)) ∧ wr.heap[w.heap.size]? = some (.cells z16 56 (0, 0)) ∧ Below w.heap.size w wr) (fun jv _ => n - (intOf jv).toNat)
      case atStart => exact ⟨0, by omega, rfl, by simpa using Hm.out, Hr.out, Hb.out⟩
      case round =>
        obtain ⟨j, hjn, rfl, hm, hr, hb⟩ := hrel
        obtain ⟨wp, hwp⟩ : ∃ wp : World, wp = wr := ⟨_, rfl⟩
        rw [← hwp] at hm hr hb ⊢
        clear hwp
        by_cases hj : j < n
        · have j0 : (0 : Int) ≤ (j : Int) := by omega
          have j1 : (j : Int) < (n : Int) := by omega
          have ho := H.out.below hb
          have hkt := ho.ks i hi
          rw [HS.out] at hkt
          obtain ⟨k, hx⟩ : ∃ r, (X i)[j]? = some r := ⟨_, List.getElem?_eq_getElem (by have := hkt.len; simp only at this; omega)⟩
          obtain ⟨g1, o1, hA, hat⟩ := hkt.get hx
          simp only at hA
          subst hA
          have hld := ldCk_run hat
          have hok := hkt.ok k (List.mem_of_getElem? hx)
          have hkd : ks[j]? = some k.dat := by rw [← Hks.out, ← ho.dat i hi, List.getElem?_map, hx]; rfl
          have hcf := Hvf.out.ks k.dat (by rw [Hks.out]; exact List.mem_of_getElem? hkd)
          obtain ⟨wz, w4, hwz, hst9, hb4, hr4⟩ := ck_new wp k
          have d3 : w4.cell? ⟨wp.heap.size, 3, none⟩ = some (.slice k.m.A k.m.n k.m.c) := row_cell hr4 3
          have d4 : w4.cell? ⟨wp.heap.size, 4, none⟩ = some (.slice k.j.A k.j.n k.j.c) := row_cell hr4 4
          obtain ⟨w5, hw5⟩ : ∃ w5, w4.alloc (.cells #[.slice k.m.A k.m.n k.m.c, .slice k.j.A k.j.n k.j.c] 27) = w5 := ⟨_, rfl⟩
          have hb5 : Below w4.heap.size w4 w5 := by rw [← hw5]; exact below_box _ _
          have hr5 : w5.heap[w4.heap.size]? = some (.cells #[.slice k.m.A k.m.n k.m.c, .slice k.j.A k.j.n k.j.c] 27 (0, 0)) := by rw [← hw5]; exact heap_alloc_new _ _
          have hb45 := hb4.trans (hb5.mono hb4.size)
          have KC := Lib.hid (VConcat k.m k.j k.ms k.js w4.heap.size w5 (row_cell hr5 0) (row_cell hr5 1) (hok.m.below hb45) (hok.j.below hb45) (by have : k.ms.length ≤ 16 := hcf.ml; omega) (by have : k.js.length ≤ 16 := hcf.jl; omega))
          have hfl : flatK (ks.take (j + 1)) = flatK (ks.take j) ++ (k.ms ++ k.js) := flatK_take hkd
          have hin15 : ∀ x ∈ k.ms ++ k.js, 0 ≤ x ∧ x ≤ 15 := fun x hx => by
            rcases List.mem_append.1 hx with h | h
            · exact hcf.ms x h
            · exact hcf.js x h
          have hlen32 : (k.ms ++ k.js).length ≤ 32 := by rw [List.length_append]; have : k.ms.length ≤ 16 := hcf.ml; have : k.js.length ≤ 16 := hcf.jl; omega
          obtain ⟨us, hus⟩ : ∃ us, k.ms ++ k.js = us := ⟨_, rfl⟩
          rw [hus] at KC hfl hin15 hlen32
          obtain ⟨L1, hL1⟩ : ∃ L1, flatK (L0 ++ ks.take j) = L1 := ⟨_, rfl⟩
          have hL2 : flatK (L0 ++ ks.take (j + 1)) = L1 ++ us := by rw [flatK_append, hfl, ← List.append_assoc, ← flatK_append, hL1]
          have hL1l : L1.length ≤ 1000000 := by
            rw [← hL1, flatK_append, List.length_append]
            have h1 := flatK_len (l := ks.take j) (fun q hq => Hvf.out.ks q (by rw [Hks.out]; exact List.mem_of_mem_take hq))
            have h2 : (ks.take j).length ≤ 64 := by rw [List.length_take]; omega
            omega
          rw [hL1] at hm
          have Hm := Lib.hid (hm.below hb45); have Hr := Lib.hid (row_below hr hb45); have Hb := Lib.hid (hb.trans (hb45.mono hb.size)); have HL2 := Lib.hid hL2; have Hin := Lib.hid hin15
          clear hm hr hb hb45 hb4 hr4 hb5 hr5 hok hkd hcf hfl hus hL1 hL2 hin15 hkt hat hx ho
          go_wp2_with (go_at_call 105; refine KC.out.mono ?_; rintro e w6 ⟨S6, rfl, hown6, hb6⟩; have Hown6 := Lib.hid hown6; have Hb6 := Lib.hid hb6; clear hown6 hb6)
          have hlu : us.length = S6.n := by have := Hown6.out.1; rw [numsV_length] at this; omega
          have hs6 := Hb6.out.size
          have hm5 := Hm.out.lt
          have hne6 : ∀ b o, S6.A = some ⟨b, o, none⟩ → ¬ b = w1.heap.size := fun b o e hb => by
            rcases Hown6.out.2 with ⟨hv, _⟩ | ⟨g', cap, cur, hv, hg', hh, _⟩
            · injection hv with h1 _ _
              rw [h1] at e
              cases e
            · injection hv with h1 _ _
              rw [h1] at e
              injection e with e
              injection e with e
              omega
          have Hlu := Lib.hid hlu; have Hne6 := Lib.hid hne6
          have hm32 : S6.n ≤ 32 := by omega
          have hsee := Seen.of_own Hown6.out
          have Hsee := Lib.hid hsee
          have Hm6 := Lib.hid (Hm.out.below Hb6.out); have Hr6 := Lib.hid (row_below Hr.out Hb6.out); have Hbw6 := Lib.hid (Hb.out.trans (Hb6.out.mono Hb.out.size))
          clear hlu hne6 hsee
          obtain ⟨A6, m, c6'⟩ := S6
          simp only at Hlu Hne6 hm32 Hsee
          go_loopw [31] (fun qv wr => ∃ q : Nat, q ≤ m ∧ qv = .int .i64 (q : Int) ∧ ManyAt wr w1.heap.size (L1 ++ us.take q) ∧ Seen wr A6 (numsV us) ∧ wr.heap[w.heap.size]? = some (.cells z16 56 (0, 0)) ∧ Below w.heap.size w wr) (fun qv _ => m - (intOf qv).toNat)
          case atStart => exact ⟨0, by omega, rfl, by simpa using Hm6.out, Hsee.out, Hr6.out, Hbw6.out⟩
          case round =>
            obtain ⟨q, hqm, rfl, hm, hs, hr, hb⟩ := hrel
            by_cases hq : q < m
            · have q0 : (0 : Int) ≤ (q : Int) := by omega
              have q1 : (q : Int) < (m : Int) := by omega
              obtain ⟨gq, oq, x, hA, hx, hxc⟩ := hs.num (j := q) (by have := Hlu.out; omega)
              have hxi := Hin.out x (List.mem_of_getElem? hx)
              obtain ⟨y, rfl⟩ := Int.eq_ofNat_of_zero_le hxi.1
              have hy : y < 16 := by omega
              have y0 : (0 : Int) ≤ (y : Int) := by omega
              have y1 : (y : Int) < 16 := by omega
              have hmc := hm.cell hy
              have hmz := hm.thaw y
              have hmm := hm.more hy
              have hcnt : (L1 ++ us.take q).count (y : Int) ≤ 2000000 := by
                have h1 := List.count_le_length (l := L1 ++ us.take q) (a := (y : Int))
                rw [List.length_append, List.length_take] at h1
                omega
              obtain ⟨N, hN⟩ : ∃ N, (L1 ++ us.take q).count (y : Int) = N := ⟨_, rfl⟩
              rw [hN] at hmc hmm hcnt
              have htk : us.take (q + 1) = us.take q ++ [(y : Int)] := by
                obtain ⟨h1, h2⟩ := List.getElem?_eq_some_iff.1 hx
                rw [List.take_succ_eq_append_getElem h1, h2]
              have Htk := Lib.hid htk
              have ht : Turned (fun k => k = w1.heap.size) wr (wr.setCell ⟨w1.heap.size, y, none⟩ (.int .i64 ((N : Nat) + 1 : Int))) := (Turned.refl (fun k => k = w1.heap.size) wr).setCell (b := ⟨w1.heap.size, y, none⟩) (fun _ => rfl) _
              have hs2 := ht.seen hs (fun b o e => Hne6.out b o e)
              have hr2 := ht.heap hr (by omega)
              have hb2 := hb.trans (ht.below (fun k e => by omega) hb.size)
              have Hmm := Lib.hid hmm; have Hs2 := Lib.hid hs2; have Hrr := Lib.hid hr2; have Hbb := Lib.hid hb2
              clear htk ht hs2 hr2 hb2 hm hs hr hb hx hxi hN hmm
              subst hA
              go_wp2
              go_roundw
              case rel => exact ⟨q + 1, by omega, by go_num, by rw [Htk.out, ← List.append_assoc]; exact Hmm.out, Hs2.out, Hrr.out, Hbb.out⟩
              case measure => simp [intOf]; omega
            · obtain rfl : q = m := by omega
              have q1 : ¬ (q : Int) < (q : Int) := by omega
              have hty : us.take q = us := List.take_of_length_le (by rw [Hlu.out]; exact Nat.le_refl _)
              rw [hty, ← HL2.out] at hm
              have Hmf := Lib.hid hm; have Hrf := Lib.hid hr; have Hbf := Lib.hid hb
              clear hm hs hr hb hty
              go_wp2
              go_roundw
              case rel => exact ⟨j + 1, by omega, by go_num, Hmf.out, Hrf.out, Hbf.out⟩
              case measure => simp [intOf]; omega
        · obtain rfl : j = n := by omega
          have j1 : ¬ (j : Int) < (j : Int) := by omega
          have hty : ks.take j = ks := List.take_of_length_le (by have := Hlen.out; omega)
          have e1 : L0 ++ ks = allKs s (i + 1) := by rw [allKs_succ, HL0.out, Hks.out]
          rw [hty, e1] at hm
          have Hmf := Lib.hid hm; have Hrf := Lib.hid hr; have Hbf := Lib.hid hb
          clear hm hr hb hty e1
          go_wp2
          go_roundw
          case rel => exact ⟨i + 1, by omega, by go_num, Hmf.out, Hrf.out, Hbf.out⟩
          case measure => simp [intOf]; omega
    · obtain rfl : i = 64 := by omega
      have i1 : ¬ ((64 : Nat) : Int) < 64 := by omega
      have hld := ldPk_many hm
      obtain ⟨w9, hst, hr9, ht9⟩ := stPk_run hr (by simp [z16]) (flatK (allKs s 64))
      have Hr9 := Lib.hid hr9; have Ht9 := Lib.hid ht9; have Hb := Lib.hid hb
      clear hm hr hb hr9 ht9
      go_wp2
      refine bodyPost_ret (results_cell_row rfl _ _ w.heap.size 56 (manyA (flatK (allKs s 64))) (0, 0) _ rfl Hr9.out Tryz.underlying56 rfl (by rw [show (manyA (flatK (allKs s 64))).size = 16 by simp [manyA, manyL_length]]; exact pk_info)) rfl ⟨rfl, Hb.out.trans (Ht9.out.below (fun k e => by omega) Hb.out.size)⟩
end Go.Proofs.YtmdmpliiiecmlaaGreat
end

section
namespace Go.Proofs.YtmdmpliiiecmlaaGreat
open Go.ChangeShapes Go.WideShapes Go.ChangeAt Go.RowKit Go.Sort Go.Shelf Go.Lib
set_option linter.unusedVariables false

/-- the closure's comparison -/
def cmpFew (L : List Int) (x y : Fin 16) : Int :=
  if Lib.compareInt (L.count ((x.1 : Nat) : Int) : Nat) (L.count ((y.1 : Nat) : Int) : Nat) = 0 then Lib.compareInt ((x.1 : Nat) : Int) ((y.1 : Nat) : Int) else Lib.compareInt (L.count ((x.1 : Nat) : Int) : Nat) (L.count ((y.1 : Nat) : Int) : Nat)
theorem cmpFew_lt (L : List Int) (x y : Fin 16) : cmpFew L x y < 0 ↔ (L.count ((x.1 : Nat) : Int) < L.count ((y.1 : Nat) : Int) ∨ (L.count ((x.1 : Nat) : Int) = L.count ((y.1 : Nat) : Int) ∧ x.1 < y.1)) := by
  unfold cmpFew Lib.compareInt
  generalize L.count ((x.1 : Nat) : Int) = a
  generalize L.count ((y.1 : Nat) : Int) = b
  obtain ⟨x, hx⟩ := x
  obtain ⟨y, hy⟩ := y
  simp only
  repeat' split
  all_goals omega
theorem ltOf_few (L : List Int) (x y : Fin 16) : (!(ltOf (cmpFew L)) y x) = fewerB (fun i => L.count (i : Int)) x.1 y.1 := by
  unfold ltOf fewerB
  rw [Bool.eq_iff_iff]
  simp only [Bool.not_eq_true', decide_eq_false_iff_not, cmpFew_lt, Bool.or_eq_true, Bool.and_eq_true, decide_eq_true_eq]
  omega
theorem ltOf_few_iff (L : List Int) (x y : Fin 16) : ltOf (cmpFew L) x y = true ↔ (L.count ((x.1 : Nat) : Int) < L.count ((y.1 : Nat) : Int) ∨ (L.count ((x.1 : Nat) : Int) = L.count ((y.1 : Nat) : Int) ∧ x.1 < y.1)) := by
  unfold ltOf
  rw [decide_eq_true_eq, cmpFew_lt]
theorem swo_few (L : List Int) : SWO (ltOf (cmpFew L)) := by
  refine ⟨fun x => ?_, fun x y z h1 h2 => ?_, fun x y z h1 h2 => ?_⟩
  · rw [← Bool.not_eq_true, ltOf_few_iff]; omega
  · rw [ltOf_few_iff] at *
    omega
  · rw [← Bool.not_eq_true, ltOf_few_iff] at *
    omega
theorem grown_more {w W1 W3 : World} {os : Array Obj} {o : Obj} (h : W1 = grow w os) (k : (W1.alloc o).drew = W3) : ∃ q os', W3 = grow (w.drewN q) os' :=
  ⟨1, os ++ #[o], by rw [← k, h, alloc_eq_grow, grow_grow]; rfl⟩
set_option maxRecDepth 100000 in
set_option maxHeartbeats 4000000 in
theorem VfewCmp (L : List Int) (bm : Nat) (x y : Fin 16) (w : World) (h : ManyAt w bm L) :
    Calls Tryz.prog 133 #[.int .i64 ((x.1 : Nat) : Int), .int .i64 ((y.1 : Nat) : Int), .pointer (some ⟨bm, 0, none⟩)] w fun e w' => e = .returned (.int .i64 (cmpFew L x y)) ∧ ∃ q os', w' = grow (w.drewN q) os' := by
  obtain ⟨x, hx⟩ := x
  obtain ⟨y, hy⟩ := y
  have f1 := h.cell hx
  have f2 := h.cell hy
  unfold cmpFew
  simp only
  obtain ⟨kx, hkx⟩ : ∃ k, L.count ((x : Nat) : Int) = k := ⟨_, rfl⟩
  obtain ⟨ky, hky⟩ : ∃ k, L.count ((y : Nat) : Int) = k := ⟨_, rfl⟩
  rw [hkx] at f1 ⊢
  rw [hky] at f2 ⊢
  obtain ⟨ck, hck⟩ : ∃ c, Lib.compareInt (kx : Int) (ky : Int) = c := ⟨_, rfl⟩
  obtain ⟨cn, hcn⟩ : ∃ c, Lib.compareInt (x : Int) (y : Int) = c := ⟨_, rfl⟩
  rw [hck, hcn]
  have Hk := Lib.hid (fun W => (by rw [← hck]; exact Compare_any (kx : Int) (ky : Int) W : Calls Tryz.prog 69 #[.int .i64 (kx : Int), .int .i64 (ky : Int)] W fun e w' => e = .returned (.int .i64 ck) ∧ W = w'))
  have Hn := Lib.hid (fun W => (by rw [← hcn]; exact Compare_any (x : Int) (y : Int) W : Calls Tryz.prog 69 #[.int .i64 (x : Int), .int .i64 (y : Int)] W fun e w' => e = .returned (.int .i64 cn) ∧ W = w'))
  clear hkx hky hck hcn h
  have x0 : (0 : Int) ≤ (x : Int) := by omega
  have x1 : (x : Int) < 16 := by omega
  have y0 : (0 : Int) ≤ (y : Int) := by omega
  have y1 : (y : Int) < 16 := by omega
  obtain ⟨r, hr⟩ : ∃ r, (if ck = 0 then cn else ck) = r := ⟨_, rfl⟩
  rw [hr]
  have Hres := Lib.hid hr
  clear hr hx hy
  obtain ⟨W3, hW3⟩ : ∃ W3, (w.alloc (.cells #[.int .i64 ck, .int .i64 cn] 3)).drew = W3 := ⟨_, rfl⟩
  have Hb3 : Below w.heap.size w W3 := by rw [← hW3]; exact ((Below.refl _ _).alloc (Nat.le_refl _) _).drew
  have g1 := (Hb3.cell (block_lt_of_cell f1)).trans f1
  have g2 := (Hb3.cell (block_lt_of_cell f2)).trans f2
  have d1 : W3.cell? ⟨w.heap.size, 0, none⟩ = some (.int .i64 ck) := by rw [← hW3]; exact (new_two _ _ _ _).1
  have d2 : W3.cell? ⟨w.heap.size, 1, none⟩ = some (.int .i64 cn) := by rw [← hW3]; exact (new_two _ _ _ _).2
  have HW3 := Lib.hid hW3
  have HO := Lib.hid (by rw [← Hres.out]; exact Or_two ck cn _ W3 d1 d2 : Calls Tryz.prog 134 #[.slice (some ⟨w.heap.size, 0, none⟩) 2 2] W3 fun e w' => e = .returned (.int .i64 r) ∧ W3 = w')
  have Hg := Lib.hid (And.intro g1 g2)
  clear hW3 Hb3 d1 d2 g1 g2
  go_enter Tryz.func133, Tryz.ntmps133
  go_wp2
  go_region_held3 (fun w' => w'.cell? ⟨bm, x, none⟩ = some (.int .i64 (kx : Int)) ∧ w'.cell? ⟨bm, y, none⟩ = some (.int .i64 (ky : Int)))
    (first | exact ⟨f1, f2⟩ | (rw [HW3.out]; exact Hg.out) | exact Hg.out)
    (first
      | (go_at_call 134; rw [HW3.out]; refine HO.out.mono ?_; rintro e w' ⟨rfl, rfl⟩)
      | (go_at_call_of 69 (Value.int .i64 (kx : Int)); refine (Hk.out _).mono ?_; rintro e w' ⟨rfl, rfl⟩)
      | (go_at_call_of 69 (Value.int .i64 (x : Int)); refine (Hn.out _).mono ?_; rintro e w' ⟨rfl, rfl⟩))
  all_goals
    go_wp2
    go_ret
    exact ⟨rfl, grown_more (show w = grow w #[] from (grow_empty w).symm) HW3.out⟩

/-! ### the sort -/
def encF (x : Fin 16) : Value := .int .i64 ((x.1 : Nat) : Int)
theorem encF_one : OneCell encF := fun _ => rfl
theorem finL_val (l : List Nat) (h : ∀ x ∈ l, x < 16) : (l.map (Fin.ofNat 16)).map (fun x => x.1) = l := by
  rw [List.map_map]
  conv => rhs; rw [← List.map_id l]
  apply List.map_congr_left
  intro x hx
  have := h x hx
  simp [Fin.ofNat]
  omega
theorem encF_list (l : List (Fin 16)) : l.map encF = numsV (toI (l.map fun x => x.1)) := by
  unfold numsV toI
  rw [List.map_map, List.map_map]
  rfl
theorem sort_fin (L : List Int) (l : List Nat) (h : ∀ x ∈ l, x < 16) : ((l.map (Fin.ofNat 16)).mergeSort fun x y => !(ltOf (cmpFew L)) y x).map (fun x => x.1) = l.mergeSort (fewerB fun i => L.count (i : Int)) := by
  rw [List.map_mergeSort (s := fewerB fun i => L.count (i : Int)) (f := fun x : Fin 16 => x.1) (fun a _ b _ => ltOf_few L a b), finL_val l h]
theorem sorted_ownF {w : World} {B g n c q : Nat} {T : TypeId} {xs : List Value} {d : Array (Fin 16)} {os : Array Obj} (h : w.ownsRow B T 1 (.slice (some ⟨g, 0, none⟩) n c) n xs) (hd : d.size = n) :
    (sortWorld encF w g 0 q d os).ownsRow B T 1 (.slice (some ⟨g, 0, none⟩) n c) n (d.toList.map encF) ∧ Turned (fun k => k = g) w (sortWorld encF w g 0 q d os) := by
  rcases h.2 with ⟨hv, _⟩ | ⟨g', cap, cur, hv, hg, hh, h1, h2, h3, h4⟩
  · cases hv
  · injection hv with hv _ hc
    injection hv with hv
    injection hv with hv
    subst hv; subst hc
    have hlt := (Array.getElem?_eq_some_iff.1 hh).1
    have hrow : (sortWorld encF w g 0 q d os).heap[g]? = some (.cells (putCells encF 0 d cur) T (0, 0)) := by
      show (w.heap.modify g (onCells (putCells encF 0 d)) ++ os)[g]? = _
      rw [Array.getElem?_append_left (by simpa using hlt), Array.getElem?_modify, if_pos rfl, hh]
      rfl
    refine ⟨⟨by rw [List.length_map, Array.length_toList, hd]; omega, .inr ⟨g, c, _, rfl, hg, hrow, h1, h2, by simp [putCells, h3], ?_⟩⟩, ⟨rfl, rfl, rfl, ?_, fun k hk hn => ?_⟩⟩
    · apply List.ext_getElem?
      intro j
      rw [List.getElem?_take]
      by_cases hj : j < n * 1
      · rw [if_pos hj, List.getElem?_map, Array.getElem?_toList, Array.getElem?_toList]
        have hjc : j < cur.size := by omega
        have hjd : j < d.size := by omega
        simp only [putCells, Array.getElem?_mapIdx, Array.getElem?_eq_getElem hjc, Option.map_some, Array.getElem?_eq_getElem hjd]
        rw [if_pos ⟨Nat.zero_le _, by omega⟩]
        simp [hjd]
      · rw [if_neg hj, eq_comm, List.getElem?_eq_none_iff, List.length_map, Array.length_toList, hd]; omega
    · show w.heap.size ≤ (w.heap.modify g (onCells (putCells encF 0 d)) ++ os).size
      simp
    · show (w.heap.modify g (onCells (putCells encF 0 d)) ++ os)[k]? = _
      rw [Array.getElem?_append_left (by simpa using hk), Array.getElem?_modify, if_neg (fun e => hn e.symm)]
theorem VSortFew (B bm : Nat) (A : Option Addr) (n c : Nat) (L : List Int) (l : List Nat) (w : World) (hl : l.length = n) (h16 : ∀ x ∈ l, x < 16) (hn : n ≤ 1000) (hown : w.ownsRow B 3 1 (.slice A n c) n (numsV (toI l))) (hm : ManyAt w bm L) :
    Calls Tryz.prog 132 #[.slice A n c, .func (.func 133) #[] #[.pointer (some ⟨bm, 0, none⟩)]] w fun e w' => e = .returned (.tuple #[]) ∧ w'.ownsRow B 3 1 (.slice A n c) n (numsV (toI (l.mergeSort (fewerB fun i => L.count (i : Int))))) ∧ Turned (fun k => (Value.slice A n c).ownBlock = some k) w w' := by
  rcases hown.2 with ⟨hv, hn0⟩ | ⟨g, cap, cur, hv, hg, hh, h1, h2, h3, h4⟩
  · have ht : l = [] := List.length_eq_zero_iff.1 (by omega)
    subst ht
    subst hn0
    refine (AnyF.slices_SortFunc_none { Tryz.sortFuncA with } A c _ w).mono ?_
    rintro e w' ⟨rfl, rfl⟩
    exact ⟨rfl, by simpa using hown, Turned.refl _ _⟩
  · injection hv with hA _ hc
    subst hA; subst hc
    have eg : ∀ args w, (callFunc 133 args).run Tryz.prog w = .ok (.enter 133 args) w := enters_of Tryz.func133 (by kernel_rfl) rfl
    have hdsz : (l.map (Fin.ofNat 16)).toArray.size = n := by simp [hl]
    have hlist : (l.map (Fin.ofNat 16)).map encF = numsV (toI l) := by rw [encF_list, finL_val l h16]
    have hne : g ≠ bm := fun e => by
      obtain ⟨cs, h5, _⟩ := hm
      rw [← e, hh] at h5
      injection h5 with h5
      injection h5 with _ h5
      exact absurd h5 (by decide)
    have hH : Holds encF w g 0 (l.map (Fin.ofNat 16)).toArray := by
      intro j hj
      refine ⟨?_, hown.frozenAt _⟩
      rw [hdsz] at hj
      rw [Nat.zero_add, hown.cellAt _ (by omega), ← hlist]
      rw [List.getElem?_map, getElem!_pos _ j (by rw [hdsz]; exact hj)]
      rw [List.getElem?_eq_getElem (by simpa [hl] using hj)]
      simp
    have hcmp : CmpLays1 Tryz.prog 133 #[.pointer (some ⟨bm, 0, none⟩)] encF (cmpFew L) g 0 (l.map (Fin.ofNat 16)).toArray.size w := fun m os dk hk x y => by
      refine VfewCmp L bm x y _ (hm.turned (p := fun k => k = g) ?_ (fun e => hne e.symm))
      rw [hdsz] at hk
      exact (sorted_ownF hown hk).2
    have h := Any.slices_SortFunc_total Tryz.sortFuncA encF encF_one (cmpFew L) (swo_few L) 133 #[.pointer (some ⟨bm, 0, none⟩)] g 0 c (l.map (Fin.ofNat 16)).toArray w eg hcmp hH (Array.getElem?_eq_some_iff.1 hh).1 (by rw [hdsz]; omega)
      (fun x y h1 h2 => by
        rw [← Bool.not_eq_true, ltOf_few_iff] at h1 h2
        exact Fin.ext (by omega))
    rw [hdsz] at h
    refine h.mono ?_
    rintro e w' ⟨rfl, m, os, rfl⟩
    have hs := sorted_ownF (q := m) (d := ((l.map (Fin.ofNat 16)).mergeSort fun x y => !(ltOf (cmpFew L)) y x).toArray) (os := os) hown (by simp [List.length_mergeSort, hl])
    refine ⟨rfl, ?_, hs.2.mono fun k _ e => by subst e; rfl⟩
    have := hs.1
    rw [encF_list, sort_fin L l h16] at this
    exact this
end Go.Proofs.YtmdmpliiiecmlaaGreat
end

section
namespace Go.Proofs.YtmdmpliiiecmlaaGreat
open Go.ChangeShapes Go.WideShapes Go.ChangeAt Go.RowKit
set_option linter.unusedVariables false

theorem toI_append (a b : List Nat) : toI (a ++ b) = toI a ++ toI b := by simp [toI]
theorem toI_length (l : List Nat) : (toI l).length = l.length := by simp [toI]
theorem toI_take (l : List Nat) (k : Nat) : toI (l.take k) = (toI l).take k := by simp [toI, List.map_take]
/-- what fewest hands back: the servers, in a row that it laid itself -/
def FewRet (us : List Int) (w : World) (e : Ending) (w' : World) : Prop :=
  ∃ S : Sl, e = .returned (.slice S.A S.n S.c) ∧ IntsT w' S us ∧ (∀ b o, S.A = some ⟨b, o, none⟩ → w.heap.size ≤ b) ∧ Below w.heap.size w w'
set_option maxRecDepth 100000 in
set_option maxHeartbeats 2000000 in
theorem Vfewest (g : Nat) (s : St) (L : List Int) (copies : Nat) (w : World) (h : StAt w g s) (hc : copies ≤ 100) :
    Calls Tryz.prog 111 #[.pointer (some ⟨g, 0, none⟩), .agg (manyA L), .int .i64 (copies : Int)] w (FewRet (toI (fewF (fun i => L.count (i : Int)) (serversL s.pk) copies)) w) := by
  have hmk : ∀ (fn : Fn) (first cap : Array Value) (w : World), (Instr.makeFunc fn first cap).run Tryz.prog w = .ok (.func fn first cap) w := fun _ _ _ _ => rfl
  obtain ⟨w1, hw1⟩ : ∃ w1, w.alloc (.cells (manyA L) 56) = w1 := ⟨_, rfl⟩
  have hb1 : Below w.heap.size w w1 := by rw [← hw1]; exact below_box _ _
  have hm1 : ManyAt w1 w.heap.size L := manyA_at (by rw [← hw1]; exact heap_alloc_new _ _)
  have KS := Lib.hid (Servers_any g s w1 (h.below hb1))
  have hlen : (serversL s.pk).length ≤ 16 := srvL_len s.pk 16
  obtain ⟨l, hl⟩ : ∃ l, serversL s.pk = l := ⟨_, rfl⟩
  have h16 : ∀ x ∈ l, x < 16 := fun x hx => by
    rw [← hl] at hx
    exact List.mem_range.1 (List.mem_filter.1 hx).1
  rw [hl] at KS hlen ⊢
  obtain ⟨n, hn⟩ : ∃ n, l.length = n := ⟨_, rfl⟩
  rw [hn] at KS hlen
  have Hn := Lib.hid hn; have H16 := Lib.hid h16; have Hm1 := Lib.hid hm1; have Hb1 := Lib.hid hb1
  clear h hl hn h16 hm1 hb1
  go_enter Tryz.func111, Tryz.ntmps111
  go_wp2_with (go_at_call 24; refine KS.out.mono ?_; rintro e w2 ⟨A1, c1, rfl, hown1, hb2⟩; have Ho1 := Lib.hid hown1; have Hb2 := Lib.hid (Hb1.out.trans (hb2.mono Hb1.out.size)); have Hm2 := Lib.hid (Hm1.out.below hb2); clear hown1 hb2)
  go_loopw [7, 13] (fun sv iv wr => ∃ (i : Nat) (A' : Option Addr) (c' : Nat), i ≤ n ∧ iv = .int .i64 (i : Int) ∧ sv = .slice A' i c' ∧ wr.ownsRow w2.heap.size 3 1 (.slice A' i c') i (numsV (toI (l.take i))) ∧ Below w2.heap.size w2 wr) (fun _ iv _ => n - (intOf iv).toNat)
  case atStart => exact ⟨0, _, _, by omega, rfl, rfl, World.ownsRow_nil _ _ _ _, Below.refl _ _⟩
  case round =>
    obtain ⟨i, A', c', hin, rfl, rfl, ho, hb⟩ := hrel
    by_cases hi : i < n
    · obtain ⟨x, hx⟩ : ∃ x, l[i]? = some x := ⟨_, List.getElem?_eq_getElem (by have := Hn.out; omega)⟩
      have i0 : (0 : Int) ≤ (i : Int) := by omega
      have i1 : (i : Int) < (n : Int) := by omega
      obtain ⟨e0, e1⟩ := loadsV_get s.pk hx
      have ho1 := own_belowM Ho1.out hb
      rcases own_seenM ho1 with h0 | ⟨g1, o1, hA, hc⟩
      · rw [h0] at e0; cases e0
      subst hA
      have d0 := hc _ _ e0
      have d1 := hc _ _ e1
      rw [← Nat.add_assoc] at d1
      obtain ⟨W, hW⟩ : ∃ W, wr.alloc (.cells #[.int .i64 (x : Int), .int .i64 (s.pk x)] 74) = W := ⟨_, rfl⟩
      have hbW : Below wr.heap.size wr W := by rw [← hW]; exact below_box _ _
      have hrW : W.heap[wr.heap.size]? = some (.cells #[.int .i64 (x : Int), .int .i64 (s.pk x)] 74 (0, 0)) := by rw [← hW]; exact heap_alloc_new _ _
      have f0 : W.cell? ⟨wr.heap.size, 0, none⟩ = some (.int .i64 (x : Int)) := row_cell hrW 0
      obtain ⟨Wb, hWb⟩ : ∃ Wb, W.alloc (.cells #[.int .i64 (x : Int)] 3) = Wb := ⟨_, rfl⟩
      have hbb : Below wr.heap.size wr Wb := by rw [← hWb]; exact hbW.trans (((Below.refl _ _).alloc (Nat.le_refl _) _).mono hbW.size)
      have hsb : Seen Wb (some ⟨W.heap.size, 0, none⟩) [.int .i64 (x : Int)] := by rw [← hWb]; exact Seen.of_cells (heap_alloc_new W _)
      have htk : l.take (i + 1) = l.take i ++ [x] := by
        obtain ⟨h1, h2⟩ := List.getElem?_eq_some_iff.1 hx
        rw [List.take_succ_eq_append_getElem h1, h2]
      have Ho := Lib.hid (own_belowM ho hbb); have Hb := Lib.hid (hb.trans (hbb.mono hb.size)); have Hsb := Lib.hid hsb; have Htk := Lib.hid htk
      clear ho hb hbW hrW hbb hsb htk hx e0 e1 hc ho1
      go_wp2_with (at_builtin; refine wpList_app2 rfl (.tmp 17) (.tmp 20) _ rfl 3 _ 8 Tryz.underlying27 int_info rfl w2.heap.size A' i c' (numsV (toI (l.take i))) rfl Ho.out (some ⟨W.heap.size, 0, none⟩) 1 1 [.int .i64 (x : Int)] rfl rfl Hsb.out (fun u hu => by simp at hu; subst hu; rfl) (by unfold maxLen; omega) (by omega) Hb.out.size ?_; intro A4 c4 w4 hown4 hg4 hbk4; have Hown4 := Lib.hid hown4; have Hg4 := Lib.hid hg4; clear hown4 hg4 hbk4)
      go_roundw
      case rel =>
        have tg : Turned (fun k => (Value.slice A' i c').ownBlock = some k) Wb w4 := Turned.of_grown Hg4.out fun k e => e
        refine ⟨i + 1, A4, c4, by omega, by go_num, rfl, ?_, Hb.out.trans (tg.below (fun k e => (Ho.out.lt k e).1) Hb.out.size)⟩
        rw [Htk.out, toI_append, numsV_append]
        exact Hown4.out
      case measure => simp [intOf]; omega
    · obtain rfl : i = n := by omega
      have i1 : ¬ (i : Int) < (i : Int) := by omega
      have hty : l.take i = l := List.take_of_length_le (by rw [Hn.out]; exact Nat.le_refl _)
      rw [hty] at ho
      have hm := Hm2.out.below hb
      have KSF := Lib.hid (VSortFew w2.heap.size w.heap.size A' i c' L l wr Hn.out H16.out (by omega) ho hm)
      have Hb := Lib.hid (Hb2.out.trans (hb.mono Hb2.out.size)); have Ho := Lib.hid ho; have Hcap := Lib.hid (own_capL ho)
      have hcap := (own_capL ho).1
      have hmax := (own_capL ho).2
      unfold maxLen at hmax
      clear ho hb hty hm
      have hmin : ∃ m : Nat, m = min copies i ∧ min (copies : Int) (i : Int) = (m : Int) := ⟨min copies i, rfl, by omega⟩
      obtain ⟨m, hm1, hm2⟩ := hmin
      have hmi : m ≤ i := by omega
      have Hm1' := Lib.hid hm1
      clear hm1
      have m0 : (0 : Int) ≤ (m : Int) := by omega
      have mc : (m : Int) ≤ (c' : Int) := by omega
      go_wp2_with (go_at_call 132; refine KSF.out.mono ?_; rintro e w5 ⟨rfl, hown5, ht5⟩; have Hown5 := Lib.hid hown5; have Ht5 := Lib.hid ht5; clear hown5 ht5)
      go_ret
      obtain ⟨st, hst⟩ : ∃ st, (l.mergeSort (fewerB fun i => L.count (i : Int))) = st := ⟨_, rfl⟩
      have hstl : st.length = i := by rw [← hst, List.length_mergeSort, Hn.out]
      have hown := Hown5.out
      rw [hst] at hown
      have hf : fewF (fun i => L.count (i : Int)) l copies = st.take m := by
        unfold fewF
        rw [hst]
        by_cases hci : copies ≤ i
        · rw [show m = copies by have := Hm1'.out; omega]
        · rw [List.take_of_length_le (by omega), List.take_of_length_le (by have := Hm1'.out; omega)]
      have hs2 := Hb2.out.size
      refine ⟨⟨A', m, c'⟩, rfl, ⟨by rw [hf, toI_length, List.length_take]; simp only; omega, by simp only; omega, Hcap.out.2, ?_⟩, fun b o e => ?_, Hb.out.trans (Ht5.out.below (fun k e => Nat.le_trans hs2 (hown.lt k e).1) Hb.out.size)⟩
      · have h1 := (SeenT.own hown).take m
        rw [hf, toI_take]
        have e1 : numsV ((toI st).take m) = (numsV (toI st)).take m := by simp [numsV, List.map_take]
        rw [e1]
        exact h1
      · simp only at e
        rcases hown.2 with ⟨hv, _⟩ | ⟨g', cap, cur, hv, hg, _⟩
        · injection hv with h1 _ _
          rw [h1] at e
          cases e
        · injection hv with h1 _ _
          rw [h1] at e
          injection e with e
          injection e with e
          omega
end Go.Proofs.YtmdmpliiiecmlaaGreat
end

section
namespace Go.Proofs.YtmdmpliiiecmlaaGreat
open Go.ChangeShapes Go.WideShapes Go.ChangeAt Go.RowKit
set_option linter.unusedVariables false

attribute [local go_sem ↓] ldCk_eq
attribute [local go_sem ↓] stCk_eq
set_option maxRecDepth 100000 in
set_option maxHeartbeats 4000000 in
theorem VJoin (g : Nat) (s : St) (c : Cmd) (w : World) (h : StAt w g s) (hf : StFit s) (ho : OrdS s) (hk : c.k = 7) :
    Calls Tryz.prog 57 #[.pointer (some ⟨g, 0, none⟩), cmdA c] w (DoRet g (chunkS s c) w) := by
  unfold cmdA
  obtain ⟨w1, hw1, hb1, hr1⟩ := cmd_box w c
  have c1 : w1.cell? ⟨w.heap.size, 1, none⟩ = some (.int .i64 c.a) := row_cell hr1 1
  have c2 : w1.cell? ⟨w.heap.size, 2, none⟩ = some (.int .i64 c.b) := row_cell hr1 2
  have c3 : w1.cell? ⟨w.heap.size, 3, none⟩ = some (.int .i64 c.c) := row_cell hr1 3
  have H := Lib.hid (h.below hb1); have Hb1 := Lib.hid hb1; have Hr1 := Lib.hid hr1
  have hgl := h.lt
  have KI := VisServer g s c.c w1 H.out
  unfold chunkS
  have Hk := Lib.hid hk
  clear h hb1 hr1
  by_cases h7 : c.k = 7 ∧ isSrv s c.c = false
  · rw [if_pos h7]
    rw [h7.2] at KI
    replace KI := Lib.hid KI
    clear h7 hk
    go_enter Tryz.func57, Tryz.ntmps57
    go_wp2_with (go_at_call 92; refine KI.out.mono ?_; rintro e w2 ⟨rfl, rfl⟩)
    go_ret
    exact DoRet.err Hb1.out (by decide)
  rw [if_neg h7]
  have hsv : isSrv s c.c = true := by
    cases he : isSrv s c.c with
    | true => rfl
    | false => exact absurd ⟨hk, he⟩ h7
  rw [hsv] at KI
  replace KI := Lib.hid KI
  clear h7 hk hsv
  cases hfs : findS s c.a with
  | none =>
    have KE := Lib.hid (VinEpoch_none g s c.a c.b w1 H.out hf ho hfs)
    have Hb1 := Hb1
    clear hfs
    go_enter Tryz.func57, Tryz.ntmps57
    go_wp2_with fail
    refine KI.out.mono ?_
    rintro e w1' ⟨rfl, rfl⟩
    go_wp2_with fail
    refine KE.out.mono ?_
    rintro e w2 ⟨rfl, hb2⟩
    obtain ⟨wz, w3, hwz, hst9, hb3, hr3⟩ := ck_new w2 ck0
    simp only [ck0, Sl.nil] at hst9 hr3
    have Hb3 := Lib.hid (Hb1.out.trans ((hb2.trans (hb3.mono hb2.size)).mono Hb1.out.size))
    clear hb2 hb3 hr3 hw1 c1 c2
    go_wp2
    go_ret
    exact DoRet.err Hb3.out (by decide)
  | some x =>
    obtain ⟨i, j, k⟩ := x
    simp only
    by_cases hep : k.ep ≠ c.b
    · rw [if_pos hep]
      have KE := Lib.hid (VinEpoch_old g s c.a c.b i j k w1 H.out hf ho hfs hep)
      clear hfs hep
      go_enter Tryz.func57, Tryz.ntmps57
      go_wp2_with fail
      refine KI.out.mono ?_
      rintro e w1' ⟨rfl, rfl⟩
      go_wp2_with fail
      refine KE.out.mono ?_
      rintro e w2 ⟨rfl, hb2⟩
      obtain ⟨wz, w3, hwz, hst9, hb3, hr3⟩ := ck_new w2 ck0
      simp only [ck0, Sl.nil] at hst9 hr3
      have Hb3 := Lib.hid (Hb1.out.trans ((hb2.trans (hb3.mono hb2.size)).mono Hb1.out.size))
      clear hb2 hb3 hr3 hw1 c1 c2
      go_wp2
      go_ret
      exact DoRet.err Hb3.out (by decide)
    · rw [if_neg hep]
      have hep : k.ep = c.b := Decidable.of_not_not hep
      have KE := VinEpoch_yes g s c.a i j k w1 H.out hf ho hfs
      rw [hep] at KE
      replace KE := Lib.hid KE
      have hfa := findS_some hfs
      have hkf := (hf.vs i hfa.1).ks k (List.mem_of_getElem? hfa.2.1)
      have Hfa := Lib.hid hfa; have Hkf := Lib.hid hkf; have Hf := Lib.hid hf; have Ho := Lib.hid ho
      have e0 : chunkF c k = if hasK c.c k = true then .inr 8 else if 4 ≤ k.ms.length + k.js.length then .inr 6 else .inl { k with js := k.js ++ [c.c] } := by
        unfold chunkF
        rw [if_neg (by have := Hk.out; omega), if_pos Hk.out]
      rw [e0]
      clear hfs hfa hkf hf ho hep e0
      by_cases hb : hasK c.c k = true
      · rw [if_pos hb]
        have Hb := Lib.hid hb
        clear hb
        go_enter Tryz.func57, Tryz.ntmps57
        go_wp2_with fail
        refine KI.out.mono ?_
        rintro e w1' ⟨rfl, rfl⟩
        go_wp2_with fail
        refine KE.out.mono ?_
        rintro e w2 ⟨r, rfl, rfl, hown, hb2⟩
        unfold ckA
        obtain ⟨wz, w3, hwz, hst9, hb3, hr3⟩ := ck_new w2 r
        have hld := ldCk_run (CkAt.of_row hr3)
        have hown3 := hown.below hb3
        have hml : r.ms.length ≤ 16 := Hkf.out.ml
        have hjl : r.js.length ≤ 16 := Hkf.out.jl
        have KH := Vhas r c.c w3 hown3.ok (by omega) (by omega)
        have hb13 := hb2.trans (hb3.mono hb2.size)
        have hr13 := row_below Hr1.out hb13
        have x3 : w3.cell? ⟨w.heap.size, 3, none⟩ = some (.int .i64 c.c) := row_cell hr13 3
        have Hb13 := Lib.hid (Hb1.out.trans (hb13.mono Hb1.out.size)); have Hr13 := Lib.hid hr13; have Hw13 := Lib.hid hb13; have Hr3 := Lib.hid hr3; have Hown3 := Lib.hid hown3
        have hs1 : w1.heap.size ≤ w2.heap.size := hb2.size
        have hsw : w.heap.size < w1.heap.size := (Array.getElem?_eq_some_iff.1 Hr1.out).1
        rw [Hb.out] at KH
        unfold ckA at KH
        replace KH := Lib.hid KH
        clear hown hb2 hb3 hr3 hown3 hb13 hr13 c1 c2 c3 hw1
        go_wp2_with (go_at_call 64; refine KH.out.mono ?_; rintro e w4 ⟨rfl, hb4⟩; have Hb4 := Lib.hid (Hb13.out.trans (hb4.mono Hb13.out.size)); clear hb4)
        go_ret
        exact DoRet.err Hb4.out (by decide)
      · rw [if_neg hb]
        have Hb := Lib.hid (show hasK c.c k = false by simpa using hb)
        clear hb
        by_cases hm : 4 ≤ k.ms.length + k.js.length
        · rw [if_pos hm]
          have Hm := Lib.hid hm
          clear hm
          go_enter Tryz.func57, Tryz.ntmps57
          go_wp2_with fail
          refine KI.out.mono ?_
          rintro e w1' ⟨rfl, rfl⟩
          go_wp2_with fail
          refine KE.out.mono ?_
          rintro e w2 ⟨r, rfl, rfl, hown, hb2⟩
          unfold ckA
          obtain ⟨wz, w3, hwz, hst9, hb3, hr3⟩ := ck_new w2 r
          have hld := ldCk_run (CkAt.of_row hr3)
          have hown3 := hown.below hb3
          have hml : r.ms.length ≤ 16 := Hkf.out.ml
          have hjl : r.js.length ≤ 16 := Hkf.out.jl
          have KH := Vhas r c.c w3 hown3.ok (by omega) (by omega)
          have hb13 := hb2.trans (hb3.mono hb2.size)
          have hr13 := row_below Hr1.out hb13
          have x3 : w3.cell? ⟨w.heap.size, 3, none⟩ = some (.int .i64 c.c) := row_cell hr13 3
          have Hb13 := Lib.hid (Hb1.out.trans (hb13.mono Hb1.out.size)); have Hr13 := Lib.hid hr13; have Hw13 := Lib.hid hb13; have Hr3 := Lib.hid hr3; have Hown3 := Lib.hid hown3
          have hs1 : w1.heap.size ≤ w2.heap.size := hb2.size
          have hsw : w.heap.size < w1.heap.size := (Array.getElem?_eq_some_iff.1 Hr1.out).1
          rw [Hb.out] at KH
          unfold ckA at KH
          replace KH := Lib.hid KH
          clear hown hb2 hb3 hr3 hown3 hb13 hr13 c1 c2 c3 hw1
          go_wp2_with fail
          refine KH.out.mono ?_
          rintro e w4 ⟨rfl, hb4⟩
          have hr4 := row_below Hr3.out hb4
          have y3 : w4.cell? ⟨w2.heap.size, 3, none⟩ = some (.slice r.m.A r.m.n r.m.c) := row_cell hr4 3
          have y4 : w4.cell? ⟨w2.heap.size, 4, none⟩ = some (.slice r.j.A r.j.n r.j.c) := row_cell hr4 4
          have hown4 := Hown3.out.below hb4
          have hmn : r.ms.length = r.m.n := hown4.ok.m.len
          have hjn : r.js.length = r.j.n := hown4.ok.j.len
          have Hr4 := Lib.hid hr4; have Hown4 := Lib.hid hown4; have Hb4 := Lib.hid hb4; have Hjn := Lib.hid hjn; have Hmn := Lib.hid hmn
          have m16 : r.m.n ≤ 16 := by omega
          have j16 : r.j.n ≤ 16 := by omega
          have hsum : 4 ≤ (r.m.n : Int) + (r.j.n : Int) := by
            have h := Hm.out
            have h' : 4 ≤ r.ms.length + r.js.length := h
            omega
          clear hmn hjn hr4 hown4 hb4
          go_wp2
          go_ret
          exact DoRet.err (Hb13.out.trans (Hb4.out.mono Hb13.out.size)) (by decide)
        · rw [if_neg hm]
          have Hm := Lib.hid hm
          clear hm
          go_enter Tryz.func57, Tryz.ntmps57
          go_wp2_with fail
          refine KI.out.mono ?_
          rintro e w1' ⟨rfl, rfl⟩
          go_wp2_with fail
          refine KE.out.mono ?_
          rintro e w2 ⟨r, rfl, rfl, hown, hb2⟩
          unfold ckA
          obtain ⟨wz, w3, hwz, hst9, hb3, hr3⟩ := ck_new w2 r
          have hld := ldCk_run (CkAt.of_row hr3)
          have hown3 := hown.below hb3
          have hml : r.ms.length ≤ 16 := Hkf.out.ml
          have hjl : r.js.length ≤ 16 := Hkf.out.jl
          have KH := Vhas r c.c w3 hown3.ok (by omega) (by omega)
          have hb13 := hb2.trans (hb3.mono hb2.size)
          have hr13 := row_below Hr1.out hb13
          have x3 : w3.cell? ⟨w.heap.size, 3, none⟩ = some (.int .i64 c.c) := row_cell hr13 3
          have Hb13 := Lib.hid (Hb1.out.trans (hb13.mono Hb1.out.size)); have Hr13 := Lib.hid hr13; have Hw13 := Lib.hid hb13; have Hr3 := Lib.hid hr3; have Hown3 := Lib.hid hown3
          have hs1 : w1.heap.size ≤ w2.heap.size := hb2.size
          have hsw : w.heap.size < w1.heap.size := (Array.getElem?_eq_some_iff.1 Hr1.out).1
          rw [Hb.out] at KH
          unfold ckA at KH
          replace KH := Lib.hid KH
          clear hown hb2 hb3 hr3 hown3 hb13 hr13 c1 c2 c3 hw1
          go_wp2_with fail
          refine KH.out.mono ?_
          rintro e w4 ⟨rfl, hb4⟩
          have hr4 := row_below Hr3.out hb4
          have y3 : w4.cell? ⟨w2.heap.size, 3, none⟩ = some (.slice r.m.A r.m.n r.m.c) := row_cell hr4 3
          have y4 : w4.cell? ⟨w2.heap.size, 4, none⟩ = some (.slice r.j.A r.j.n r.j.c) := row_cell hr4 4
          have hown4 := Hown3.out.below hb4
          have hmn : r.ms.length = r.m.n := hown4.ok.m.len
          have hjn : r.js.length = r.j.n := hown4.ok.j.len
          have Hr4 := Lib.hid hr4; have Hown4 := Lib.hid hown4; have Hb4 := Lib.hid hb4; have Hjn := Lib.hid hjn; have Hmn := Lib.hid hmn
          have m16 : r.m.n ≤ 16 := by omega
          have j16 : r.j.n ≤ 16 := by omega
          have hsum : ¬ 4 ≤ (r.m.n : Int) + (r.j.n : Int) := by
            have h := Hm.out
            have h' : ¬ 4 ≤ r.ms.length + r.js.length := h
            omega
          have y3c : w4.cell? ⟨w.heap.size, 3, none⟩ = some (.int .i64 c.c) := row_cell (row_below Hr13.out hb4) 3
          obtain ⟨w5, hw5⟩ : ∃ w5, w4.alloc (.cells #[.int .i64 c.c] 3) = w5 := ⟨_, rfl⟩
          have hb5 : Below w4.heap.size w4 w5 := by rw [← hw5]; exact below_box _ _
          have hs5 : Seen w5 (some ⟨w4.heap.size, 0, none⟩) [.int .i64 c.c] := by rw [← hw5]; exact Seen.of_cells (heap_alloc_new _ _)
          have Ho5 := Lib.hid (hown4.below hb5); have Hs5 := Lib.hid hs5; have Hr5 := Lib.hid (row_below hr4 hb5); have Hb5 := Lib.hid (Hw13.out.trans ((hb4.trans (hb5.mono hb4.size)).mono Hw13.out.size))
          have hs15 := Hb5.out.size
          clear hmn hjn hr4 hown4 hb4 hb5 hs5
          go_wp2_with (at_builtin; refine wpList_app2 rfl (.tmp 40) (.tmp 43) _ rfl 3 _ 8 Tryz.underlying27 int_info rfl w1.heap.size r.j.A r.j.n r.j.c (numsV r.js) rfl Ho5.out.j (some ⟨w4.heap.size, 0, none⟩) 1 1 [.int .i64 c.c] rfl rfl Hs5.out (fun u hu => by simp at hu; subst hu; rfl) (by unfold maxLen; omega) (by omega) hs15 ?_; intro A6 c6 w6 hown6 hg6 hbk6; have t6 : Turned (fun k => (Value.slice r.j.A r.j.n r.j.c).ownBlock = some k) w5 w6 := Turned.of_grown hg6 (fun k e => e); have hr6 := t6.heap Hr5.out (fun e => box_ne Hr5.out Ho5.out.j e rfl); have f4 := row_cell hr6 4; have z4 := row_frozen hr6 4; have Hown6 := Lib.hid hown6; have T6 := Lib.hid t6; have Hbk6 := Lib.hid hbk6; have Hr6 := Lib.hid hr6; obtain ⟨w7, hw7⟩ : ∃ w7, w6.setCell ⟨w2.heap.size, 4, none⟩ (.slice A6 (r.j.n + 1) c6) = w7 := ⟨_, rfl⟩; have hr7 : w7.heap[w2.heap.size]? = some (.cells #[.int .i64 r.id, .int .i64 r.vo, .int .i64 r.ep, .slice r.m.A r.m.n r.m.c, .slice A6 (r.j.n + 1) c6] 47 (0, 0)) := (by rw [← hw7, row_set hr6]; rfl); have t7 : Turned (fun k => k = w2.heap.size) w6 w7 := (by rw [← hw7]; exact (Turned.refl (fun k => k = w2.heap.size) w6).setCell (b := ⟨w2.heap.size, 4, none⟩) (fun _ => rfl) _); have hldq := ldCk_run (k := { r with j := ⟨A6, r.j.n + 1, c6⟩, js := r.js ++ [c.c] }) (CkAt.of_row hr7); have Hr7 := Lib.hid hr7; have T7 := Lib.hid t7; clear hown6 hg6 hbk6 t6 hr6 hr7 t7)
          have b6 : Below w1.heap.size w5 w6 := T6.out.below (fun k e => (Ho5.out.j.lt k e).1) hs15
          have hs16 := b6.size
          have hbc : Below w1.heap.size w1 w7 := (Hb5.out.trans b6).trans (T7.out.below (fun k e => by omega) (by omega))
          have em6 := T6.out.own Ho5.out.m (fun k hk e => Ho5.out.ne k hk e)
          have em7 := T7.out.own em6 (fun k hk e => box_ne Hr6.out em6 hk e)
          have ej6 : w6.ownsRow w1.heap.size 3 1 (.slice A6 (r.j.n + 1) c6) (r.j.n + 1) (numsV (r.js ++ [c.c])) := by rw [numsV_append]; exact Hown6.out
          have ej7 := T7.out.own ej6 (fun k hk e => box_ne Hr6.out ej6 hk e)
          have hokq : CkOk w7 { r with j := ⟨A6, r.j.n + 1, c6⟩, js := r.js ++ [c.c] } := by
            obtain ⟨id, vo, ep, ⟨mA, mn, mc⟩, j, ms, js⟩ := r
            exact ⟨IntsT.own em7, IntsT.own ej7⟩
          have hfe := Hkf.out.ep
          have hfid : r.dat.id = c.a := Hfa.out.2.2
          have KR := Vrenew g s i j r.dat { r with j := ⟨A6, r.j.n + 1, c6⟩, js := r.js ++ [c.c] } w7 (H.out.below hbc) Hf.out Ho.out ⟨Hfa.out.1, Hfa.out.2.1, rfl⟩ hokq hfe.1 hfe.2
          unfold ckA at KR
          simp only at KR
          have Hbc := Lib.hid hbc
          refine KR.mono ?_
          rintro e w10 ⟨rfl, hst10, ht10⟩
          have Hst := Lib.hid hst10; have Ht := Lib.hid ht10
          clear b6 hs16 hbc em6 em7 ej6 ej7 hokq hfe hfid KR hst10 ht10 hldq f4 z4 hw7 hw5 y3 y4 y3c x3 hld hst9 hwz
          go_wp2
          go_ret
          exact ⟨rfl, fun _ => Hst.out, (Turned.of_below (p := fun k => k = g) (Hb1.out.trans (Hbc.out.mono Hb1.out.size))).trans Ht.out (fun _ e => e) (fun _ _ e => e)⟩
end Go.Proofs.YtmdmpliiiecmlaaGreat
end

section
namespace Go.Proofs.YtmdmpliiiecmlaaGreat
open Go.ChangeShapes Go.WideShapes Go.ChangeAt Go.RowKit
set_option linter.unusedVariables false

section
variable {P : Program} {w : World}
theorem step_app {ops : Array Oper} {o : Oper} {a : Act} {K : Act → World → Prop} {Q : Exit → Act → World → Prop} {E : Prop} (hgd : o.guard = none) (s x : Operand) (t : TypeId)
    (ho : o.op = .call { callee := .builtin .append, args := #[s, x], argTypes := #[t, t] })
    (e : TypeId) (z : Value) (bytes : Nat) (ht : P.underlying t = some (.slice e)) (hinfo : (P.info? e).map (fun i => (i.zero, i.size, i.bytes)) = some (some z, 1, bytes)) (hz1 : z.cells.size = 1)
    (base : Nat) (A : Option Addr) (n c : Nat) (xs : List Value) (hs : a.eval s = .slice A n c) (hown : w.ownsRow base e 1 (.slice A n c) n xs)
    (A2 : Option Addr) (m c2 : Nat) (news : List Value) (hx : a.eval x = .slice A2 m c2) (hm : news.length = m) (hsee : Seen w A2 news) (h1 : ∀ u ∈ news, u.oneCell' = true)
    (h63 : n + m ≤ maxLen) (hbytes : (n + m) * bytes ≤ 140737488355328) (hbase : base ≤ w.heap.size)
    (h : ∀ A' c' w', w'.ownsRow base e 1 (.slice A' (n + m) c') (n + m) (xs ++ news) → w.grownBy w' (Value.slice A n c).ownBlock → (∀ k, (Value.slice A' (n + m) c').ownBlock = some k → (Value.slice A n c).ownBlock = some k ∨ k = w.heap.size) →
      K (a.put o.dst (.slice A' (n + m) c')) w') : if Region.wanted o (yielded ops a.tmps) = true then Oper.wp P o a w K Q else E := by
  have hw : Region.wanted o (yielded ops a.tmps) = true := by simp [Region.wanted, hgd]
  rw [if_pos hw]
  obtain ⟨A', c', w', hrun, h2, h3, h4⟩ := run_app2 (P := P) t o.type e z bytes ht hinfo hz1 base A n c xs hown A2 m c2 news hm hsee h1 h63 hbytes hbase
  unfold Oper.wp execOp
  simp only [ho, resolve, invoke, builtin, Sem.run_bind, Sem.run_pure, Result.andThen_ok, List.map_toArray, List.map_cons, List.map_nil, hs, hx, hrun]
  exact h A' c' w' h2 h3 h4
end
theorem below_grown {B : Nat} {w w1 w2 : World} {v : Value} (h : Below B w w1) (hg : w1.grownBy w2 v.ownBlock) (hv : ∀ k, v.ownBlock = some k → B ≤ k) (hB : B ≤ w1.heap.size) : Below B w w2 :=
  h.trans ((Turned.of_grown hg (p := fun k => B ≤ k) hv).below (fun _ e => e) hB)
end Go.Proofs.YtmdmpliiiecmlaaGreat
end
