/-
  A heap in memory with its entries in their order (HeapAt); contracts of (*heap.Heap).Set, Len, Least, Key. Conditions: what each names.
-/
import Derived.Test.YtbfjakchgmdldaaGreatHomGrow
namespace Go.Proofs.YtbfjakchgmdldaaGreat
open Go.ChangeShapes Go.WideShapes Go.ChangeAt Go.RowKit Go.Maps Go.Sort
set_option linter.unusedVariables false

/-- a heap at h that has the entries x -/
def HeapAt (w : World) (B : Nat) (h : Home) (q m : Option Nat) (x : List Ent) : Prop :=
  ∃ (t : List Ent) (ks : List Int) (f : Int → Int), IsH w B h q m t ks f ∧ TreeOk t ks f ∧ (∀ r, r ∈ t ↔ r ∈ x) ∧ GoodE x ∧ ∀ r ∈ x, Fits r
theorem HeapAt.turned {p : Nat → Prop} {w w' : World} {B : Nat} {h : Home} {q m : Option Nat} {x : List Ent} (H : HeapAt w B h q m x) (ht : Turned p w w') (hp : ∀ k, Foot h q m k → ¬ p k) : HeapAt w' B h q m x := by
  obtain ⟨t, ks, f, h1, h2⟩ := H
  exact ⟨t, ks, f, h1.turned ht hp, h2⟩
theorem HeapAt.below {w w' : World} {B : Nat} {h : Home} {q m : Option Nat} {x : List Ent} (H : HeapAt w B h q m x) (hb : Below w.heap.size w w') : HeapAt w' B h q m x := H.turned (p := fun _ => False) (.of_below hb) fun _ _ e => e
theorem HeapAt.spares {w : World} {B : Nat} {h : Home} {q m : Option Nat} {x : List Ent} (H : HeapAt w B h q m x) {k : Nat} (hk : Foot h q m k) : B ≤ k ∧ k < w.heap.size ∧ ∀ cs T fr, w.heap[k]? = some (.cells cs T fr) → T = h.T ∨ T = 88 := by
  obtain ⟨t, ks, f, h1, h2⟩ := H
  exact h1.spares hk
theorem HeapAt.good {w : World} {B : Nat} {h : Home} {q m : Option Nat} {x : List Ent} (H : HeapAt w B h q m x) : GoodE x := by
  obtain ⟨t, ks, f, _, _, _, h, _⟩ := H
  exact h
theorem HeapAt.fits {w : World} {B : Nat} {h : Home} {q m : Option Nat} {x : List Ent} (H : HeapAt w B h q m x) : ∀ r ∈ x, Fits r := by
  obtain ⟨t, ks, f, _, _, _, _, h⟩ := H
  exact h
/-- the zero heap -/
theorem HeapAt.zero {w : World} {B : Nat} {h : Home} (hB : B ≤ h.b) (hr : w.heap[h.b]? = some (.cells (h.K (.slice none 0 0) (.map none)) h.T (0, 0))) : HeapAt w B h none none [] :=
  ⟨[], [], fun _ => 0, ⟨hB, ⟨none, 0, hr, World.ownsRow_nil _ _ _ _, rfl⟩, .inl ⟨rfl, rfl⟩⟩, TreeOk.nil _, fun _ => Iff.rfl, GoodE.nil, fun _ h => by cases h⟩
/-- as many names as entries -/
theorem TreeOk.count {t : List Ent} {ks : List Int} {f : Int → Int} (h : TreeOk t ks f) : ks.length = t.length := by
  have hn : (t.map (·.1)).Nodup := by
    unfold List.Nodup
    rw [List.pairwise_map]
    exact h.distinct
  have := List.Perm.length_eq ((List.perm_ext_iff_of_nodup h.rise.nodup hn).2 fun k => by
    rw [List.mem_map]
    constructor
    · intro hk
      obtain ⟨r, hr, e⟩ := h.keys k hk
      exact ⟨r, hr, e⟩
    · rintro ⟨r, hr, rfl⟩
      obtain ⟨i, hi⟩ := List.mem_iff_getElem?.1 hr
      exact (h.place i r hi).1)
  rw [this, List.length_map]
theorem Sifts.of_tree {t : List Ent} {ks : List Int} {f : Int → Int} (h : TreeOk t ks f) {p : Nat} (hp : p < t.length) : Sifts (Off p t) t.length ks p t f :=
  ⟨h.heap.hole p, rfl, hp, fun _ => Iff.rfl, fun i r _ hr => h.place i r hr, h.rise⟩
theorem Sifts.of_more {t : List Ent} {ks : List Int} {f : Int → Int} (h : TreeOk t ks f) (z : Ent) : Sifts (fun r => r ∈ t) (t.length + 1) ks t.length (t ++ [z]) f := by
  have hh : ∀ {i : Nat} {b : Ent}, (t ++ [z])[i]? = some b → i ≠ t.length → t[i]? = some b := by
    intro i b hb hi
    have hl := (List.getElem?_eq_some_iff.1 hb).1
    rw [List.length_append, List.length_singleton] at hl
    rwa [List.getElem?_append_left (by omega)] at hb
  refine ⟨h.heap.grow z, by simp, by omega, fun r => ⟨fun ⟨i, hi, hr⟩ => List.mem_iff_getElem?.2 ⟨i, hh hr hi⟩, fun hr => ?_⟩, fun i r hi hr => h.place i r (hh hr hi), h.rise⟩
  obtain ⟨i, hi⟩ := List.mem_iff_getElem?.1 hr
  have hl := (List.getElem?_eq_some_iff.1 hi).1
  exact ⟨i, by omega, by rw [List.getElem?_append_left hl]; exact hi⟩
/-- off the place of a name are just the others -/
theorem TreeOk.off {t : List Ent} {ks : List Int} {f : Int → Int} (h : TreeOk t ks f) {i : Nat} {a : Ent} (ha : t[i]? = some a) (r : Ent) : Off i t r ↔ r ∈ t ∧ r.1 ≠ a.1 := by
  constructor
  · rintro ⟨j, hj, hr⟩
    exact ⟨List.mem_iff_getElem?.2 ⟨j, hr⟩, fun e => hj (h.names hr ha e)⟩
  · rintro ⟨hr, hne⟩
    obtain ⟨j, hj⟩ := List.mem_iff_getElem?.1 hr
    exact ⟨j, fun e => by subst e; rw [ha] at hj; injection hj with hj; exact hne (by rw [hj]), hj⟩
/-- what Set hands back -/
def SetRet (B : Nat) (h : Home) (q m : Option Nat) (x : List Ent) (w : World) (en : Ending) (w' : World) : Prop :=
  en = .returned (.tuple #[]) ∧ ∃ q' m', HeapAt w' B h q' m' x ∧ Turned (Foot h q m) w w' ∧ ∀ k, Foot h q' m' k → Foot h q m k ∨ w.heap.size ≤ k

set_option maxRecDepth 100000 in
set_option maxHeartbeats 2000000 in
theorem Set_any (B : Nat) (h : Home) (q m : Option Nat) (x : List Ent) (n k : Int) (w : World) (H : HeapAt w B h q m x) (hx : x.length ≤ 50000) (he : Fits (n, k)) (hB : B ≤ w.heap.size) :
    Calls Tryz.prog 51 #[.pointer (some ⟨h.b, h.o, none⟩), .int .i64 n, .int .i64 k] w (SetRet B h q m (putE x (n, k)) w) := by
  obtain ⟨t, ks, f, H1, T, hm, hg, hfit⟩ := H
  have hlen : t.length = x.length := (hg.perm T hm).length_eq
  have hcount := T.count
  obtain ⟨A, c, hrow, -, -⟩ := H1.row
  have a1 : w.cell? ⟨h.b, h.o + 1, none⟩ = some (.map m) := h.cell1 hrow
  have hft : ∀ r ∈ t, Fits r := fun r hr => hfit r ((hm r).1 hr)
  have HT := Lib.hid T; have HH := Lib.hid H1; have Hm := Lib.hid hm; have Hg := Lib.hid hg; have Hfit := Lib.hid hfit; have He := Lib.hid he; have Hmap := Lib.hid H1.map; have Hft := Lib.hid hft
  have hks : ks.length ≤ 1000000 := by omega
  have hn1 : t.length + 1 ≤ 100000 := by omega
  have Hks := Lib.hid hks; have Hn1 := Lib.hid hn1; have HB := Lib.hid hB
  clear H1 hm hg hfit he hft hrow hlen hcount hx hks hn1 hB
  by_cases hin : n ∈ ks
  · obtain ⟨i, v, hfi, hti⟩ := HT.out.has hin
    obtain ⟨b, rfl⟩ : ∃ b, m = some b := by
      rcases Hmap.out with ⟨_, e⟩ | ⟨b, e, _⟩
      · rw [e] at hin; cases hin
      · exact ⟨b, e⟩
    have hil := (List.getElem?_eq_some_iff.1 hti).1
    have e1 : (if n ∈ ks then f n else 0) = (i : Int) := by rw [if_pos hin]; exact hfi
    have e2 : decide (n ∈ ks) = true := decide_eq_true hin
    have E1 := Lib.hid e1; have E2 := Lib.hid e2; have Hti := Lib.hid hti
    have Hks2 := Lib.hid (fun k hk => (show k = n ∨ ∃ r, Off i t r ∧ r.1 = k from by
      obtain ⟨r, hr, rfl⟩ := HT.out.keys k hk
      by_cases e : r.1 = n
      · exact .inl e
      · exact .inr ⟨r, (HT.out.off Hti.out r).2 ⟨hr, e⟩, rfl⟩))
    clear hin hfi hti e1 e2 T
    go_enter Tryz.func51, Tryz.ntmps51
    go_wp2_with (first
      | (refine wpList_lookI rfl (.tmp 12) (.tmp 13) rfl B (some b) ks f n rfl rfl Hmap.out He.out.1.1 He.out.1.2 ?_; rw [E1.out, E2.out])
      | (go_at_call 47; refine (settle_any B h b q (Off i t) t.length ks i t f (n, k) w HH.out (Sifts.of_tree HT.out hil) (by have := Hn1.out; omega) Hks.out He.out (fun r hr => Hft.out r ((HT.out.off Hti.out r).1 hr).1) (fun r hr => ((HT.out.off Hti.out r).1 hr).2) Hks2.out).mono ?_; rintro en w2 ⟨rfl, t2, f2, h2, o2, m2, l2, u2⟩; have H2 := Lib.hid h2; have O2 := Lib.hid o2; have M2 := Lib.hid m2; have U2 := Lib.hid u2; clear h2 o2 m2 u2 l2))
    go_end0
    unfold SetRet
    refine ⟨rfl, q, some b, ⟨t2, _, f2, H2.out, O2.out, fun r => ?_, Hg.out.put _, fun r hr => ?_⟩, U2.out, fun k hk => .inl hk⟩
    · rw [M2.out r, HT.out.off Hti.out r, mem_putE, Hm.out r]
    · rcases mem_putE.1 hr with rfl | hr
      · exact He.out
      · exact Hfit.out r hr.1
  · have e1 : (if n ∈ ks then f n else 0) = 0 := if_neg hin
    have e2 : decide (n ∈ ks) = false := decide_eq_false hin
    have E1 := Lib.hid e1; have E2 := Lib.hid e2; have Hin := Lib.hid hin
    have hnot : ∀ r ∈ t, r.1 ≠ n := fun r hr e => by
      obtain ⟨i, hi⟩ := List.mem_iff_getElem?.1 hr
      exact Hin.out (e ▸ (HT.out.place i r hi).1)
    have Hnot := Lib.hid hnot
    clear hin e1 e2 T hnot
    go_enter Tryz.func51, Tryz.ntmps51
    go_wp2_with (first
      | (refine wpList_lookI rfl (.tmp 12) (.tmp 13) rfl B m ks f n rfl rfl Hmap.out He.out.1.1 He.out.1.2 ?_; rw [E1.out, E2.out])
      | (go_at_call 68; refine (hgrow_any B h q m t ks f w HH.out (by have := Hn1.out; omega) HB.out).mono ?_; rintro en w1 ⟨rfl, q1, b1, h1, u1, g1⟩; have H1 := Lib.hid h1; have U1 := Lib.hid u1; have G1 := Lib.hid g1; clear h1 u1 g1 a1)
      | (go_at_call 47; refine (settle_any B h b1 q1 (fun r => r ∈ t) (t.length + 1) ks t.length (t ++ [(0, 0)]) f (n, k) w1 H1.out (Sifts.of_more HT.out _) Hn1.out Hks.out He.out Hft.out Hnot.out (fun k hk => .inr (HT.out.keys k hk))).mono ?_; rintro en w2 ⟨rfl, t2, f2, h2, o2, m2, l2, u2⟩; have H2 := Lib.hid h2; have O2 := Lib.hid o2; have M2 := Lib.hid m2; have U2 := Lib.hid u2; clear h2 o2 m2 u2 l2))
    go_end0
    unfold SetRet
    refine ⟨rfl, q1, some b1, ⟨t2, _, f2, H2.out, O2.out, fun r => ?_, Hg.out.put _, fun r hr => ?_⟩, U1.out.trans U2.out (fun _ e => e) (fun k hk e => ?_), G1.out⟩
    · rw [M2.out r, mem_putE]
      constructor
      · rintro (e | e)
        · exact .inl e
        · exact .inr ⟨(Hm.out r).1 e, Hnot.out r e⟩
      · rintro (e | ⟨e, _⟩)
        · exact .inl e
        · exact .inr ((Hm.out r).2 e)
    · rcases mem_putE.1 hr with rfl | hr
      · exact He.out
      · exact Hfit.out r hr.1
    · rcases G1.out k e with e | e
      · exact e
      · omega
end Go.Proofs.YtbfjakchgmdldaaGreat
