/-
  A state whose cells are stored anew; contract of volume's renew. Conditions: a state in memory, as find asks.
-/
import Derived.Test.YtcaaakoahaoooaaVolEpo
namespace Go.Proofs.Ytcaaakoahaoooaa
open Go.ChangeShapes Go.WideShapes Go.ChangeAt Go.RowKit
set_option linter.unusedVariables false

def updN {α : Type} (F : Nat → α) (i : Nat) (x : α) : Nat → α := fun j => if j = i then x else F j
theorem updN_same {α : Type} {F : Nat → α} {i : Nat} {x : α} : updN F i x i = x := if_pos rfl
theorem updN_other {α : Type} {F : Nat → α} {i j : Nat} {x : α} (h : j ≠ i) : updN F i x j = F j := if_neg h
theorem set_get {cs : Array Value} {i j : Nat} {v : Value} (h : j ≠ i) : (cs.setIfInBounds i v)[j]? = cs[j]? := by
  rw [Array.getElem?_setIfInBounds, if_neg (fun e => h e.symm)]
theorem set_get_same {cs : Array Value} {i : Nat} {v : Value} (h : i < cs.size) : (cs.setIfInBounds i v)[i]? = some v := by
  rw [Array.getElem?_setIfInBounds, if_pos rfl, if_pos h]
/-- other chunks of a volume -/
theorem StC.setKs {w w' : World} {g : Nat} {cs : Array Value} {s : St} {K : Nat → Sl} {X : Nat → List Ck} (h : StC w g cs s K X) {i : Nat} (hi : i < 64) {S : Sl} {Y : List Ck}
    (hr : w'.heap[g]? = some (.cells (cs.setIfInBounds (16 + i * 7 + 6) (.slice S.A S.n S.c)) 69 (0, 0))) (hY : KsT w' S Y) (hk : ∀ q, q < 64 → q ≠ i → KsT w' (K q) (X q)) :
    StC w' g (cs.setIfInBounds (16 + i * 7 + 6) (.slice S.A S.n S.c)) (setV s i { s.vs i with ks := Y.map Ck.dat }) (updN K i S) (updN X i Y) := by
  have e : ∀ q, ((setV s i { s.vs i with ks := Y.map Ck.dat }).vs q).bl = (s.vs q).bl ∧ ((setV s i { s.vs i with ks := Y.map Ck.dat }).vs q).p = (s.vs q).p ∧ ((setV s i { s.vs i with ks := Y.map Ck.dat }).vs q).ver = (s.vs q).ver := fun q => by
    by_cases hq : q = i
    · subst hq; rw [setV_same]; exact ⟨rfl, rfl, rfl⟩
    · rw [setV_other hq]; exact ⟨rfl, rfl, rfl⟩
  refine ⟨hr, by rw [Array.size_setIfInBounds]; exact h.size, fun q hq => ?_, fun q hq => ?_, fun q hq => ?_, fun q hq => ?_, fun q hq => ?_, fun q hq => ?_, fun q hq => ?_, fun q hq => ?_, ?_, fun q hq => ?_, fun q hq => ?_⟩
  · rw [set_get (by omega)]; exact h.pk q hq
  · rw [set_get (by omega), (e q).1]; exact h.c0 q hq
  · rw [set_get (by omega), (e q).2.1]; exact h.c1 q hq
  · rw [set_get (by omega), (e q).2.1]; exact h.c2 q hq
  · rw [set_get (by omega), (e q).2.1]; exact h.c3 q hq
  · rw [set_get (by omega), (e q).2.1]; exact h.c4 q hq
  · rw [set_get (by omega), (e q).2.2]; exact h.c5 q hq
  · by_cases hqi : q = i
    · subst hqi
      rw [set_get_same (by rw [h.size]; omega), updN_same]
    · rw [set_get (by omega), updN_other hqi]; exact h.c6 q hq
  · rw [set_get (by omega)]; exact h.md
  · by_cases hqi : q = i
    · subst hqi; rw [updN_same, updN_same]; exact hY
    · rw [updN_other hqi, updN_other hqi]; exact hk q hq hqi
  · by_cases hqi : q = i
    · subst hqi; rw [updN_same, setV_same]
    · rw [updN_other hqi, setV_other hqi]; exact h.dat q hq
theorem KsT.own {w : World} {B n c : Nat} {A : Option Addr} {X : List Ck} (h : w.ownsRow B 48 5 (.slice A n c) n (cksV X)) (hk : ∀ k ∈ X, CkOk w k) : KsT w ⟨A, n, c⟩ X := by
  refine ⟨?_, (own_capL h).1, (own_capL h).2, SeenT.own h, hk⟩
  have := h.1
  rw [cksV_length] at this
  simp only
  omega
theorem noCk_own {w : World} {p : Nat → Prop} (h : ∀ b, p b → ∀ cs T fr, w.heap[b]? = some (.cells cs T fr) → T ≠ 3 ∧ T ≠ 48) : NoCk w p :=
  ⟨fun k cs fr hk e => (h k hk cs _ fr e).1 rfl, fun k cs fr hk e => (h k hk cs _ fr e).2 rfl⟩
attribute [local go_sem ↓] ldCk_eq
attribute [local go_sem ↓] stCk_eq
set_option maxRecDepth 100000 in
set_option maxHeartbeats 2000000 in
theorem Vrenew (g : Nat) (s : St) (i j : Nat) (k0 : Chk) (r : Ck) (w : World) (h : StAt w g s) (hf : StFit s) (ho : OrdS s) (hat : FoundAt s r.id i j k0) (hok : CkOk w r) (h0 : 0 ≤ r.ep) (h1 : r.ep ≤ 35184372088832) :
    Calls Try.prog 74 #[.pointer (some ⟨g, 0, none⟩), ckA r] w fun e w' => e = .returned (.tuple #[]) ∧ StAt w' g (renewS s i j r.dat) ∧ Turned (fun k => k = g) w w' := by
  unfold ckA
  obtain ⟨w1, hw1, hb1, hr1⟩ := ck_box w r
  have KF := Lib.hid (Vfind g s r.id w1 (h.below hb1) hf ho)
  rw [ho.find hat] at KF
  unfold findV at KF
  obtain ⟨cs, K, X, h⟩ := h
  have hgl := h.lt
  obtain ⟨hi, hj, hid⟩ := hat
  have hXl : j < (X i).length := by
    rw [← h.dat i hi, List.getElem?_map, Option.map_eq_some_iff] at hj
    obtain ⟨q, hq, _⟩ := hj
    exact (List.getElem?_eq_some_iff.1 hq).1
  have hX64 : (X i).length ≤ 64 := by
    have := (hf.vs i hi).kl
    rwa [← h.dat i hi, List.length_map] at this
  obtain ⟨N, hN⟩ : ∃ N, (X i).length = N := ⟨_, rfl⟩
  have HX := Lib.hid hXl
  rw [hN] at hXl hX64
  have HN := Lib.hid hN
  clear hN
  have H := Lib.hid h; have Hb1 := Lib.hid hb1; have Hr1 := Lib.hid hr1; have Hok := Lib.hid hok
  have x0 : w1.cell? ⟨w.heap.size, 0, none⟩ = some (.int .i64 r.id) := row_cell hr1 0
  clear h hf ho hid hj hok hr1 hb1
  go_enter Try.func74, Try.ntmps74
  go_wp2_with fail
  refine KF.out.mono ?_
  rintro e w2 ⟨rfl, hb2⟩
  have hr2 := row_below Hr1.out hb2
  have x2 : w2.cell? ⟨w.heap.size, 2, none⟩ = some (.int .i64 r.ep) := row_cell hr2 2
  have z2 := row_frozen hr2 2
  obtain ⟨w3, hw3⟩ : ∃ w3, w2.setCell ⟨w.heap.size, 2, none⟩ (.int .i64 (r.ep + 1)) = w3 := ⟨_, rfl⟩
  have hr3 : w3.heap[w.heap.size]? = some (.cells #[.int .i64 r.id, .int .i64 r.vo, .int .i64 (r.ep + 1), .slice r.m.A r.m.n r.m.c, .slice r.j.A r.j.n r.j.c] 48 (0, 0)) := by rw [← hw3, row_set hr2]; rfl
  have hb12 := Hb1.out.trans (hb2.mono Hb1.out.size)
  have hb3 : Below w.heap.size w w3 := by rw [← hw3]; exact hb12.setCell (p := ⟨w.heap.size, 2, none⟩) (Nat.le_refl _) _
  have h3 := H.out.below hb3
  have c6 : w3.cell? ⟨g, 16 + i * 7 + 6, none⟩ = some (.slice (K i).A (K i).n (K i).c) := by rw [h3.cell]; exact h3.c6 i hi
  have KK0 := VCloneK (K i) (X i) w3 (h3.ks i hi) (by have := HN.out; omega) (by have := HN.out; omega)
  unfold CloneKRet at KK0
  rw [HN.out] at KK0
  have KK := Lib.hid KK0
  clear KK0
  have Hr3 := Lib.hid hr3; have Hb3 := Lib.hid hb3; have H3 := Lib.hid h3
  clear hb2 hr2 hr3 hb12 hb3 h3
  go_upto_region 3 with fail
  go_wp2_with fail
  refine KK.out.mono ?_
  rintro e w4 ⟨gr, cr, rfl, hown4, hb4⟩
  have h4 := H3.out.below hb4
  have z6 : w4.frozen? ⟨g, 16 + i * 7 + 6, none⟩ = false := row_frozen h4.row _
  have c64 : w4.cell? ⟨g, 16 + i * 7 + 6, none⟩ = some (.slice (K i).A (K i).n (K i).c) := by rw [h4.cell]; exact h4.c6 i hi
  have hgr := (hown4.lt gr rfl).1
  have hlt3 := (Array.getElem?_eq_some_iff.1 Hr3.out).1
  have hg3 : g < w3.heap.size := H3.out.lt
  obtain ⟨w5, hw5⟩ : ∃ w5, w4.setCell ⟨g, 16 + i * 7 + 6, none⟩ (.slice (some ⟨gr, 0, none⟩) N cr) = w5 := ⟨_, rfl⟩
  have ht5 : Turned (fun k => k = g) w4 w5 := by rw [← hw5]; exact (Turned.refl (fun k => k = g) w4).setCell (b := ⟨g, 16 + i * 7 + 6, none⟩) (fun _ => rfl) _
  have hr5 : w5.heap[g]? = some (.cells (cs.setIfInBounds (16 + i * 7 + 6) (.slice (some ⟨gr, 0, none⟩) N cr)) 69 (0, 0)) := by rw [← hw5]; exact row_set h4.row _ _
  have d6 : w5.cell? ⟨g, 16 + i * 7 + 6, none⟩ = some (.slice (some ⟨gr, 0, none⟩) N cr) := by
    rw [row_cell hr5, set_get_same (by rw [h4.size]; omega)]
  have hown5 := own_turnedM ht5 hown4 (fun k hk e => by injection hk with hk; simp only at hk; omega)
  have hbox5 := ht5.heap (row_below Hr3.out hb4) (by omega)
  have hldb := ldCk_run (k := { r with ep := r.ep + 1 }) (CkAt.of_row (w := w5.drew) hbox5)
  obtain ⟨w6, hst, hown6, ht6⟩ := ks_set (w := w5.drew) (j := j) hown5 HX.out { r with ep := r.ep + 1 }
  simp only at hldb hst
  have Hst := Lib.hid hst; have Hld := Lib.hid hldb; have H4 := Lib.hid h4; have Hb4 := Lib.hid hb4; have Ht5 := Lib.hid ht5; have Hr5 := Lib.hid hr5; have Hown6 := Lib.hid hown6; have Ht6 := Lib.hid ht6
  have d6' : w5.drew.cell? ⟨g, 16 + i * 7 + 6, none⟩ = some (.slice (some ⟨gr, 0, none⟩) N cr) := d6
  clear hown4 hb4 h4 ht5 hr5 hown5 hown6 ht6 hbox5 hst hldb d6 x0 x2 z2 hw1
  have j0 : (0 : Int) ≤ (j : Int) := by omega
  have j1 : (j : Int) < (N : Int) := by omega
  go_upto_region 4 with fail
  have hst := Hst.out; have hldb := Hld.out
  go_region
  all_goals
    go_wp2
    go_end0
    have t1 : Turned (fun k => k = g) w3 w6 :=
      (((Turned.of_below (p := fun k => k = g) Hb4.out).trans Ht5.out (r := fun k => k = g) (fun _ e => e) (fun _ _ e => e)).trans (r := fun k => k = g) (Turned.of_below (p := fun k => k = g) (Below.refl _ _).drew) (fun _ e => e) (fun _ _ e => e)).trans Ht6.out (fun _ e => e) (fun k hk e => by omega)
    have hks : ∀ q, q < 64 → KsT w6 (K q) (X q) := fun q hq => (H3.out.ks q hq).turned t1 H3.out.noCk.1 H3.out.noCk.2
    have hr6 : w6.heap[g]? = some (.cells (cs.setIfInBounds (16 + i * 7 + 6) (.slice (some ⟨gr, 0, none⟩) N cr)) 69 (0, 0)) := Ht6.out.heap (w := w5.drew) Hr5.out (by omega)
    have hrn : CkOk w6 { r with ep := r.ep + 1 } := by
      have := (Hok.out.below Hb3.out).turned t1 H3.out.noCk.1
      exact ⟨this.m, this.j⟩
    have hown : w6.ownsRow w3.heap.size 48 5 (.slice (some ⟨gr, 0, none⟩) N cr) N (cksV ((X i).set j { r with ep := r.ep + 1 })) := Hown6.out
    have hst6 := H4.out.setKs (w' := w6) hi (S := ⟨some ⟨gr, 0, none⟩, N, cr⟩) (Y := (X i).set j { r with ep := r.ep + 1 }) hr6 (KsT.own hown (fun k hk => by
      rcases List.mem_or_eq_of_mem_set hk with hk | rfl
      · exact (hks i hi).ok k hk
      · exact hrn)) (fun q hq _ => hks q hq)
    have e1 : renewS s i j r.dat = setV s i { s.vs i with ks := ((X i).set j { r with ep := r.ep + 1 }).map Ck.dat } := by
      unfold renewS
      rw [List.map_set, H3.out.dat i hi]
      rfl
    rw [e1]
    exact ⟨rfl, ⟨_, _, _, hst6⟩, (Turned.of_below (p := fun k => k = g) Hb3.out).trans t1 (fun _ e => e) (fun _ _ e => e)⟩
end Go.Proofs.Ytcaaakoahaoooaa
