/-
  Contract of (*heap.Heap).Drop. Conditions: a heap in memory.
-/
import Derived.Test.YtbfjakchgmdldaaGreatHomUse
namespace Go.Proofs.YtbfjakchgmdldaaGreat
open Go.ChangeShapes Go.WideShapes Go.ChangeAt Go.RowKit Go.Maps Go.Sort
set_option linter.unusedVariables false

theorem ent_size : (Tryz.prog.info? 88).map (·.size) = some 2 := by kernel_rfl
theorem own_shrink {w : World} {B g n c E : Nat} {e : TypeId} {t : List Ent} (h : w.ownsRow B e 2 (.slice (some ⟨g, 0, none⟩) n c) n (entsV t)) (hE : E ≤ n) : w.ownsRow B e 2 (.slice (some ⟨g, 0, none⟩) E c) E (entsV (t.take E)) := by
  have hl := h.1
  rw [entsV_length] at hl
  rcases h.2 with ⟨hv, _⟩ | ⟨g', cap, cur, hv, hg, hh, h1, h2, h3, h4⟩
  · cases hv
  · injection hv with hv _ hc
    injection hv with hv
    injection hv with hv
    subst hv; subst hc
    refine ⟨by rw [entsV_length, List.length_take]; omega, .inr ⟨g, c, cur, rfl, hg, hh, by omega, h2, h3, ?_⟩⟩
    rw [← entsV_take, ← h4, List.take_take]
    congr 1
    omega
/-- the tree without its last, its slice written into the struct -/
theorem IsH.shorter {w : World} {B : Nat} {h : Home} {g c E : Nat} {m : Option Nat} {t : List Ent} {ks : List Int} {f : Int → Int} (H : IsH w B h (some g) m t ks f) (hrow : w.heap[h.b]? = some (.cells (h.K (.slice (some ⟨g, 0, none⟩) t.length c) (.map m)) h.T (0, 0)))
    (hown : w.ownsRow B 88 2 (.slice (some ⟨g, 0, none⟩) t.length c) t.length (entsV t)) (hE : E ≤ t.length) : IsH (w.setCell ⟨h.b, h.o, none⟩ (.slice (some ⟨g, 0, none⟩) E c)) B h (some g) m (t.take E) ks f ∧ Turned (fun k => k = h.b) w (w.setCell ⟨h.b, h.o, none⟩ (.slice (some ⟨g, 0, none⟩) E c)) := by
  obtain ⟨ap1, ap2, ap3⟩ := H.apart
  have ts : Turned (fun k => k = h.b) w (w.setCell ⟨h.b, h.o, none⟩ (.slice (some ⟨g, 0, none⟩) E c)) := (Turned.refl (fun k => k = h.b) w).setCell (b := ⟨h.b, h.o, none⟩) (fun _ => rfl) _
  have hl : (t.take E).length = E := by rw [List.length_take]; omega
  refine ⟨⟨H.base, ⟨some ⟨g, 0, none⟩, c, ?_, ?_, rfl⟩, H.map.turned ts fun k hk e => ap2 k hk e⟩, ts⟩
  · rw [hl]; exact h.put0 hrow _
  · rw [hl]; exact own_turnedM ts (own_shrink hown hE) fun k hk e => ap1 k hk e
/-- a tree without its last, and without a name elsewhere: a hole -/
theorem Sifts.of_cut {t : List Ent} {ks : List Int} {f : Int → Int} (h : TreeOk t ks f) {i E : Nat} {n v : Int} (hi : t[i]? = some (n, v)) (hE : E + 1 = t.length) (hlt : i < E) : Sifts (Off i (t.take E)) E (outK ks n) i (t.take E) f := by
  have hh : ∀ {j : Nat} {b : Ent}, (t.take E)[j]? = some b → t[j]? = some b := fun {j b} hb => by
    rw [List.getElem?_take] at hb
    split at hb
    · exact hb
    · cases hb
  refine ⟨(h.heap.take E).hole i, by rw [List.length_take]; omega, hlt, fun _ => Iff.rfl, fun j r hj hr => ?_, h.rise.out n⟩
  have h1 := h.place j r (hh hr)
  exact ⟨mem_outK.2 ⟨h1.1, fun e => hj (h.names (hh hr) hi e)⟩, h1.2⟩
theorem cut_off {t : List Ent} {ks : List Int} {f : Int → Int} (h : TreeOk t ks f) {i E : Nat} {n v : Int} {l : Ent} (hi : t[i]? = some (n, v)) (hE : E + 1 = t.length) (hlt : i < E) (hl : t[E]? = some l) (r : Ent) : (r = l ∨ Off i (t.take E) r) ↔ r ∈ t ∧ r.1 ≠ n := by
  constructor
  · rintro (rfl | ⟨j, hj, hr⟩)
    · exact ⟨List.mem_iff_getElem?.2 ⟨E, hl⟩, fun e => absurd (h.names hl hi e) (by omega)⟩
    · rw [List.getElem?_take] at hr
      split at hr
      · exact ⟨List.mem_iff_getElem?.2 ⟨j, hr⟩, fun e => hj (h.names hr hi e)⟩
      · cases hr
  · rintro ⟨hr, hne⟩
    obtain ⟨j, hj⟩ := List.mem_iff_getElem?.1 hr
    have hjl := (List.getElem?_eq_some_iff.1 hj).1
    by_cases hjE : j = E
    · subst hjE
      rw [hl] at hj
      injection hj with hj
      exact .inl hj.symm
    · refine .inr ⟨j, fun e => ?_, by rw [List.getElem?_take, if_pos (by omega)]; exact hj⟩
      subst e
      rw [hi] at hj
      injection hj with hj
      exact hne (by rw [← hj])
/-- the last itself gone -/
theorem TreeOk.cut {t : List Ent} {ks : List Int} {f : Int → Int} (h : TreeOk t ks f) {E : Nat} {n v : Int} (hi : t[E]? = some (n, v)) (hE : E + 1 = t.length) : TreeOk (t.take E) (outK ks n) f ∧ ∀ r, r ∈ t.take E ↔ r ∈ t ∧ r.1 ≠ n := by
  have hh : ∀ {j : Nat} {b : Ent}, (t.take E)[j]? = some b → t[j]? = some b ∧ j < E := fun {j b} hb => by
    rw [List.getElem?_take] at hb
    split at hb
    · exact ⟨hb, ‹_›⟩
    · cases hb
  have hm : ∀ r, r ∈ t.take E ↔ r ∈ t ∧ r.1 ≠ n := fun r => by
    constructor
    · intro hr
      obtain ⟨j, hj⟩ := List.mem_iff_getElem?.1 hr
      exact ⟨List.mem_iff_getElem?.2 ⟨j, (hh hj).1⟩, fun e => absurd (h.names (hh hj).1 hi e) (by have := (hh hj).2; omega)⟩
    · rintro ⟨hr, hne⟩
      obtain ⟨j, hj⟩ := List.mem_iff_getElem?.1 hr
      have hjl := (List.getElem?_eq_some_iff.1 hj).1
      have : j ≠ E := fun e => by subst e; rw [hi] at hj; injection hj with hj; exact hne (by rw [← hj])
      exact List.mem_iff_getElem?.2 ⟨j, by rw [List.getElem?_take, if_pos (by omega)]; exact hj⟩
  refine ⟨⟨h.heap.take E, fun j r hr => ?_, fun k hk => ?_, h.rise.out n⟩, hm⟩
  · have h1 := h.place j r (hh hr).1
    exact ⟨mem_outK.2 ⟨h1.1, ((hm r).1 (List.mem_iff_getElem?.2 ⟨j, hr⟩)).2⟩, h1.2⟩
  · obtain ⟨hk, hne⟩ := mem_outK.1 hk
    obtain ⟨r, hr, rfl⟩ := h.keys k hk
    exact ⟨r, (hm r).2 ⟨hr, hne⟩, rfl⟩
theorem new_box (w : World) (l : Ent) : ∃ W, w.alloc (.cells #[.int .i64 l.1, .int .i64 l.2] 88) = W ∧ Below w.heap.size w W ∧ W.cell? ⟨w.heap.size, 0, none⟩ = some (.int .i64 l.1) ∧ W.cell? ⟨w.heap.size, 1, none⟩ = some (.int .i64 l.2) :=
  ⟨_, rfl, (Below.refl _ _).alloc (Nat.le_refl _) _, (new_two _ _ _ _).1, (new_two _ _ _ _).2⟩
theorem own_two {w : World} {B g n c i : Nat} {e : TypeId} {t : List Ent} (h : w.ownsRow B e 2 (.slice (some ⟨g, 0, none⟩) n c) n (entsV t)) {r : Ent} (hi : t[i]? = some r) : w.cell? ⟨g, i * 2, none⟩ = some (.int .i64 r.1) ∧ w.cell? ⟨g, i * 2 + 1, none⟩ = some (.int .i64 r.2) := by
  have hl := h.1
  rw [entsV_length] at hl
  have hil := (List.getElem?_eq_some_iff.1 hi).1
  obtain ⟨e0, e1⟩ := entsV_get hi
  exact ⟨by rw [h.cellAt _ (by omega)]; exact e0, by rw [h.cellAt _ (by omega)]; exact e1⟩
/-- what Drop hands back -/
def DropRet (B : Nat) (h : Home) (q m : Option Nat) (x : List Ent) (n : Int) (w : World) (en : Ending) (w' : World) : Prop :=
  ∃ b : Bool, en = .returned (.bool b) ∧ (b = true ↔ ∃ r ∈ x, r.1 = n) ∧ HeapAt w' B h q m (outE x n) ∧ Turned (Foot h q m) w w'

set_option maxRecDepth 100000 in
set_option maxHeartbeats 4000000 in
theorem Drop_any (B : Nat) (h : Home) (q m : Option Nat) (x : List Ent) (n : Int) (w : World) (H : HeapAt w B h q m x) (hx : x.length ≤ 50000) (hb1 : -9223372036854775808 ≤ n) (hb2 : n ≤ 9223372036854775807) :
    Calls Tryz.prog 33 #[.pointer (some ⟨h.b, h.o, none⟩), .int .i64 n] w (DropRet B h q m x n w) := by
  obtain ⟨t, ks, f, H1, T, hm, hg, hfit⟩ := H
  have hlen : t.length = x.length := (hg.perm T hm).length_eq
  have hcount := T.count
  have Hmap := Lib.hid H1.map
  have Hn := Lib.hid (And.intro hb1 hb2)
  by_cases hin : n ∈ ks
  · obtain ⟨i, v, hfi, hti⟩ := T.has hin
    obtain ⟨b, rfl⟩ : ∃ b, m = some b := by
      rcases Hmap.out with ⟨_, e⟩ | ⟨b, e, _⟩
      · rw [e] at hin; cases hin
      · exact ⟨b, e⟩
    have hil := (List.getElem?_eq_some_iff.1 hti).1
    obtain ⟨E, hE⟩ : ∃ E, E + 1 = t.length := ⟨t.length - 1, by omega⟩
    obtain ⟨l, hl⟩ : ∃ l, t[E]? = some l := ⟨_, List.getElem?_eq_getElem (by omega)⟩
    have hfl : Fits l := hfit l ((hm l).1 (List.mem_iff_getElem?.2 ⟨E, hl⟩))
    obtain ⟨g, c, rfl, hgs, hlc, hcm, hrow, hown, -, -⟩ := H1.get hl
    have a0 : w.cell? ⟨h.b, h.o, none⟩ = some (.slice (some ⟨g, 0, none⟩) t.length c) := h.cell0 hrow
    have a1 : w.cell? ⟨h.b, h.o + 1, none⟩ = some (.map (some b)) := h.cell1 hrow
    have e1 : (if n ∈ ks then f n else 0) = (i : Int) := by rw [if_pos hin]; exact hfi
    have e2 : decide (n ∈ ks) = true := decide_eq_true hin
    have eE : (t.length : Int) - 1 = (E : Int) := by omega
    have i0 : (0 : Int) ≤ (E : Int) := by omega
    have i1 : (E : Int) < (t.length : Int) := by omega
    have i2 : (E : Int) ≤ (c : Int) := by omega
    have i3 : (t.length : Int) ≤ 50000 := by omega
    obtain ⟨T0, hT0⟩ : ∃ T0, t.length = T0 := ⟨_, rfl⟩
    have hgh : h.b ≠ g := fun e => H1.apart.1 g rfl e.symm
    have hbh : h.b ≠ b := fun e => H1.apart.2.1 b rfl e.symm
    have hbg : g ≠ b := fun e => H1.apart.2.2 g b rfl rfl e
    have E1 := Lib.hid e1; have E2 := Lib.hid e2; have HT := Lib.hid T; have HH := Lib.hid H1; have Hm := Lib.hid hm; have Hg := Lib.hid hg; have Hfit := Lib.hid hfit; have Hti := Lib.hid hti; have Hl := Lib.hid hl; have Hfl := Lib.hid hfl; have HE := Lib.hid hE; have HT0 := Lib.hid hT0; have Hx := Lib.hid hx
    have Hc := Lib.hid hcount; have Hlen := Lib.hid hlen; have Hc2 := Lib.hid hcm
    have Hin := Lib.hid (show ∃ r ∈ x, r.1 = n from ⟨(n, v), (hm _).1 (List.mem_iff_getElem?.2 ⟨i, hti⟩), rfl⟩)
    have Hrow := Lib.hid hrow; have Hown := Lib.hid hown
    rw [hT0] at a0 eE i1 i3 hlc
    clear H1 T hm hg hfit hin hfi hti hl hfl hE hrow hown hx hb1 hb2 e1 e2 hlen hcount hT0
    rcases (by have := HE.out; omega : i < E ∨ i = E) with hiE | rfl
    · have hr2 : ∀ r, Off i (t.take E) r → r.1 ≠ l.1 := fun r hr e => by
        obtain ⟨j, hj, hr⟩ := hr
        rw [List.getElem?_take] at hr
        split at hr
        · exact absurd (HT.out.names hr Hl.out e) (by omega)
        · cases hr
      have hk2 : ∀ k ∈ outK ks n, k = l.1 ∨ ∃ r, Off i (t.take E) r ∧ r.1 = k := fun k hk => by
        obtain ⟨hk, hne⟩ := mem_outK.1 hk
        obtain ⟨r, hr, rfl⟩ := HT.out.keys k hk
        rcases (cut_off HT.out Hti.out HE.out hiE Hl.out r).2 ⟨hr, hne⟩ with rfl | hr
        · exact .inl rfl
        · exact .inr ⟨r, hr, rfl⟩
      have Hr2 := Lib.hid hr2; have Hk2 := Lib.hid hk2
      have j1 : (i : Int) < (E : Int) := by omega
      clear hr2 hk2
      go_enter Tryz.func33, Tryz.ntmps33
      go_wp2_with (first
        | (refine wpList_lookI rfl (.tmp 13) (.tmp 14) rfl B (some b) ks f n rfl rfl Hmap.out Hn.out.1 Hn.out.2 ?_; rw [E1.out, E2.out])
        | (refine wpList_delI rfl (.tmp 23) (.tmp 24) rfl b ks f n rfl rfl HH.out.places Hn.out.1 Hn.out.2 ?_; intro w1 hm1 ht1; have HH1 := Lib.hid (HH.out.mapped ht1 hm1); have Ht1 := Lib.hid ht1; have hrow1 := ht1.heap Hrow.out hbh; have hown1 := own_turnedM ht1 Hown.out (fun k hk e => hbg (by injection hk with hk; exact hk.trans e)); have d0 : w1.cell? ⟨h.b, h.o, none⟩ = some (.slice (some ⟨g, 0, none⟩) T0 c) := ht1.cell a0 hbh; have c0 := own_two hown1 Hl.out; have Hrow1 := Lib.hid hrow1; have Hown1 := Lib.hid hown1; obtain ⟨c0, c1⟩ := c0; clear hm1 ht1 hrow1 hown1 a0 a1; obtain ⟨W3, hW3, hb3, x0, x1⟩ := new_box w1 l; have HH3 := Lib.hid (HH1.out.below hb3); have hrow3 : W3.heap[h.b]? = _ := (hb3.block h.b (block_lt_of_cell d0)).trans Hrow1.out; have hs3 := HH3.out.shorter hrow3 (own_belowM Hown1.out hb3) (E := E) (by have := HE.out; omega); have d3 : W3.cell? ⟨h.b, h.o, none⟩ = some (.slice (some ⟨g, 0, none⟩) T0 c) := (by rw [← HT0.out]; exact h.cell0 hrow3); have z3 := row_frozen hrow3 h.o; have Hs3 := Lib.hid hs3; have Hb3 := Lib.hid hb3; have hhw1 : ¬ w1.heap.size = h.b := Nat.ne_of_gt (block_lt_of_cell d0); clear hb3 hrow3 hs3)
        | (go_at_call 47; refine (settle_any B h b (some g) (Off i (t.take E)) E (outK ks n) i (t.take E) f l (W3.setCell ⟨h.b, h.o, none⟩ (.slice (some ⟨g, 0, none⟩) E c)) Hs3.out.1 (Sifts.of_cut HT.out Hti.out HE.out hiE) (by omega) (by have := Hc.out; have := HT0.out; have := List.length_filter_le (fun j => j != n) ks; unfold outK; omega) Hfl.out (fun r hr => Hfit.out r ((Hm.out r).1 ((cut_off HT.out Hti.out HE.out hiE Hl.out r).1 (.inr hr)).1)) Hr2.out Hk2.out).mono ?_; rintro en w5 ⟨rfl, t5, f5, h5, o5, m5, l5, u5⟩; have H5 := Lib.hid h5; have O5 := Lib.hid o5; have M5 := Lib.hid m5; have U5 := Lib.hid u5; clear h5 o5 m5 u5 l5))

      go_ret
      unfold DropRet
      refine ⟨true, rfl, ⟨fun _ => Hin.out, fun _ => rfl⟩, ⟨t5, _, f5, H5.out, O5.out, fun r => ?_, Hg.out.out n, fun r hr => Hfit.out r (mem_outE.1 hr).1⟩, ?_⟩
      · rw [M5.out r, cut_off HT.out Hti.out HE.out hiE Hl.out r, mem_outE, Hm.out r]
      · exact (((Ht1.out.mono (q := Foot h (some g) (some b)) fun k _ e => .inr (.inr (by rw [e]))).trans (.of_below (p := fun _ => False) Hb3.out) (fun _ e => e) (fun _ _ e => e.elim)).trans Hs3.out.2 (fun _ e => e) (fun k _ e => .inl e)).trans U5.out (fun _ e => e) (fun _ _ e => e)
    · have j1 : ¬ (i : Int) < (i : Int) := by omega
      go_enter Tryz.func33, Tryz.ntmps33
      go_wp2_with (first
        | (refine wpList_lookI rfl (.tmp 13) (.tmp 14) rfl B (some b) ks f n rfl rfl Hmap.out Hn.out.1 Hn.out.2 ?_; rw [E1.out, E2.out])
        | (refine wpList_delI rfl (.tmp 23) (.tmp 24) rfl b ks f n rfl rfl HH.out.places Hn.out.1 Hn.out.2 ?_; intro w1 hm1 ht1; have HH1 := Lib.hid (HH.out.mapped ht1 hm1); have Ht1 := Lib.hid ht1; have hrow1 := ht1.heap Hrow.out hbh; have hown1 := own_turnedM ht1 Hown.out (fun k hk e => hbg (by injection hk with hk; exact hk.trans e)); have d0 : w1.cell? ⟨h.b, h.o, none⟩ = some (.slice (some ⟨g, 0, none⟩) T0 c) := ht1.cell a0 hbh; have c0 := own_two hown1 Hl.out; have Hrow1 := Lib.hid hrow1; have Hown1 := Lib.hid hown1; obtain ⟨c0, c1⟩ := c0; clear hm1 ht1 hrow1 hown1 a0 a1; obtain ⟨W3, hW3, hb3, x0, x1⟩ := new_box w1 l; have HH3 := Lib.hid (HH1.out.below hb3); have hrow3 : W3.heap[h.b]? = _ := (hb3.block h.b (block_lt_of_cell d0)).trans Hrow1.out; have hs3 := HH3.out.shorter hrow3 (own_belowM Hown1.out hb3) (E := i) (by have := HE.out; omega); have d3 : W3.cell? ⟨h.b, h.o, none⟩ = some (.slice (some ⟨g, 0, none⟩) T0 c) := (by rw [← HT0.out]; exact h.cell0 hrow3); have z3 := row_frozen hrow3 h.o; have Hs3 := Lib.hid hs3; have Hb3 := Lib.hid hb3; have hhw1 : ¬ w1.heap.size = h.b := Nat.ne_of_gt (block_lt_of_cell d0); clear hb3 hrow3 hs3))

      go_ret
      unfold DropRet
      have hc := HT.out.cut Hti.out HE.out
      refine ⟨true, rfl, ⟨fun _ => Hin.out, fun _ => rfl⟩, ⟨t.take i, _, f, Hs3.out.1, hc.1, fun r => ?_, Hg.out.out n, fun r hr => Hfit.out r (mem_outE.1 hr).1⟩, ?_⟩
      · rw [hc.2 r, mem_outE, Hm.out r]
      · exact ((Ht1.out.mono (q := Foot h (some g) (some b)) fun k _ e => .inr (.inr (by rw [e]))).trans (.of_below (p := fun _ => False) Hb3.out) (fun _ e => e) (fun _ _ e => e.elim)).trans Hs3.out.2 (fun _ e => e) (fun k _ e => .inl e)
  · have e1 : (if n ∈ ks then f n else 0) = 0 := if_neg hin
    have e2 : decide (n ∈ ks) = false := decide_eq_false hin
    obtain ⟨A, c, hrow, -, -⟩ := H1.row
    have a1 : w.cell? ⟨h.b, h.o + 1, none⟩ = some (.map m) := h.cell1 hrow
    have E1 := Lib.hid e1; have E2 := Lib.hid e2
    have hnot : ∀ r ∈ x, r.1 ≠ n := fun r hr e => by
      obtain ⟨i, hi⟩ := List.mem_iff_getElem?.1 ((hm r).2 hr)
      exact hin (e ▸ (T.place i r hi).1)
    have hout : outE x n = x := List.filter_eq_self.2 fun r hr => by simpa using hnot r hr
    have Hnot := Lib.hid hnot
    have HX := Lib.hid (show HeapAt w B h q m (outE x n) by rw [hout]; exact ⟨t, ks, f, H1, T, hm, hg, hfit⟩)
    clear H1 T hm hg hfit hlen hcount hrow hin e1 e2 hnot hb1 hb2 hout
    go_enter Tryz.func33, Tryz.ntmps33
    go_wp2_with (refine wpList_lookI rfl (.tmp 13) (.tmp 14) rfl B m ks f n rfl rfl Hmap.out Hn.out.1 Hn.out.2 ?_; rw [E1.out, E2.out])
    go_ret
    unfold DropRet
    exact ⟨false, rfl, ⟨fun e => (by cases e), fun ⟨r, hr, e⟩ => absurd e (Hnot.out r hr)⟩, HX.out, Turned.refl _ _⟩
end Go.Proofs.YtbfjakchgmdldaaGreat
