/-
  Words for an argument that is a message: opened. They speak of no program of ours. No condition but what each lemma names.
-/
import Derived.Test.YtmlmkfooiikcgaaFraW
import Derived.Test.YtmlmkfooiikcgaaFields
namespace Go.Proofs.Ytmlmkfooiikcgaa
open Go.ChangeShapes Go.WideShapes Go.ChangeAt Go.RowKit
set_option linter.unusedVariables false

section
variable {H : Type} {enc : TypeId × Value → H} {P : Program}
theorem nums_of_trod {W : World} {fuel : Nat} {v : Value} {x : DataW H × List MemPlace} {tb te : TypeId} (ht : P.underlying tb = some (.slice te)) (he : P.underlying te = some (.int .i64)) (hc : P.cellsOf te = 1)
    (hf : DataW.trod enc P W 0 (fun _ => true) true fuel tb [v] = some x) :
    ∃ A n c, ∃ ks : List Int, v = .slice A n c ∧ ks.length = n ∧ n ≤ maxLen ∧ Seen W A (numsV ks) ∧ ∀ k ∈ ks, -9223372036854775808 ≤ k ∧ k ≤ 9223372036854775807 := by
  rcases open_ints ht he hc hf with ⟨hcs, hx⟩ | ⟨a, len', cap', zs, hcs, _, hl, hm, hz, hx, hcell, hwz⟩
  · simp at hcs
    subst hcs
    exact ⟨none, 0, 0, [], rfl, rfl, Nat.zero_le _, .inl rfl, fun k h => by cases h⟩
  · simp at hcs
    subst hcs
    simp only [if_true] at hz
    refine ⟨some a, len', cap', zs.take len', rfl, by simp; omega, Nat.le_trans hl hm, ?_, fun k hk => ?_⟩
    · by_cases h0 : len' = 0
      · subst h0
        exact .inl (by simp [numsV])
      · obtain ⟨g, o, spot⟩ := a
        have hspot : spot = none := by simpa [Addr.add] using World.cell?_spot (hcell 0 (by omega))
        subst hspot
        refine .inr ⟨g, o, rfl, fun j v hv => ?_⟩
        simp only [numsV, List.getElem?_map, Option.map_eq_some_iff] at hv
        obtain ⟨z, hzj, rfl⟩ := hv
        rw [List.getElem?_take] at hzj
        split at hzj
        · rename_i hj
          have h1 := hcell j (by omega)
          rw [Addr.add_lit] at h1
          rw [h1]
          have e : zs.getD j 0 = z := by rw [List.getD_eq_getElem?_getD, hzj]; rfl
          rw [e]
        · cases hzj
    · exact bounds_i64 (hwz k (List.mem_of_mem_take hk))
theorem texts_of_trod {W : World} {fuel : Nat} {v : Value} {x : DataW H × List MemPlace} {tl te tu : TypeId} (hl : P.underlying tl = some (.slice te)) (he : P.underlying te = some (.slice tu)) (hu : P.underlying tu = some (.int .u8)) (cu : P.cellsOf tu = 1) (ce : P.cellsOf te = 1)
    (hf : DataW.trod enc P W 0 (fun _ => true) true fuel tl [v] = some x) :
    ∃ A n c, ∃ ls ts, v = .slice A n c ∧ ts.length = n ∧ n ≤ maxLen ∧ (∀ l ∈ ts, l.length ≤ maxLen) ∧ Seen W A (listsV ls) ∧ ArgLists W ls ts := by
  rcases Go.Deep.open_slice hl hf with ⟨hcs, hx⟩ | ⟨a, len', cap', m, n, D, Pl, hcs, _, hl1, hl2, hm, hx, hel⟩
  · simp at hcs
    subst hcs
    exact ⟨none, 0, 0, [], [], rfl, rfl, Nat.zero_le _, fun l h => (by cases h), .inl rfl, rfl, fun i A n c h => by simp at h⟩
  · simp at hcs
    subst hcs
    simp only [if_true] at hm
    rw [ce] at hel
    by_cases hz : len' = 0
    · subst hz
      exact ⟨some a, 0, cap', [], [], rfl, rfl, Nat.zero_le _, fun l h => (by cases h), .inl rfl, rfl, fun i A n c h => by simp at h⟩
    have hspot : a.spot = none := by
      obtain ⟨cs', hc, _⟩ := hel 0 (by omega)
      obtain ⟨_, hcl, hat⟩ := World.cells?_some hc
      have h3 := hat 0 (by omega)
      rw [List.getElem?_eq_getElem (by omega)] at h3
      obtain ⟨g, o, sp⟩ := a
      simpa [Addr.add] using World.cell?_spot h3
    obtain ⟨g, o, sp⟩ := a
    simp only at hspot
    subst hspot
    obtain ⟨l, hll, hlp⟩ := list_of (n := len') (p := fun i (x : (Option Addr × Nat × Nat) × List UInt8) => W.cell? ⟨g, o + i, none⟩ = some (.slice x.1.1 x.1.2.1 x.1.2.2) ∧ x.2.length = x.1.2.1 ∧ x.1.2.1 ≤ maxLen ∧ Seen W x.1.1 (bytesV x.2)) (fun i hi => by
      obtain ⟨cs', hc, ht⟩ := hel i (by omega)
      obtain ⟨_, hcl, hat⟩ := World.cells?_some hc
      match cs', hcl with
      | [x0], _ =>
        obtain ⟨A2, n2, c2, bs2, hs, g1, g2, g3, g4⟩ := bytes_of_trod he hu cu ht
        have h3 := hat 0 (by simp)
        subst hs
        refine ⟨((A2, n2, c2), bs2), ?_, g1, Nat.le_trans g2 g3, g4⟩
        rw [show i * 1 = i by omega, Addr.add_lit, Addr.add_lit, Nat.add_zero] at h3
        simpa using h3)
    refine ⟨some ⟨g, o, none⟩, len', cap', l.map (·.1), l.map (·.2), rfl, by simp [hll], Nat.le_trans hl1 hl2, fun t ht => ?_, .inr ⟨g, o, rfl, fun j v hv => ?_⟩, by simp, fun i A n c hi => ?_⟩
    · simp only [List.mem_map] at ht
      obtain ⟨x, hx, rfl⟩ := ht
      obtain ⟨j, hj, e⟩ := List.mem_iff_getElem.1 hx
      have := hlp j x (by rw [List.getElem?_eq_getElem hj, e])
      rw [this.2.1]; exact this.2.2.1
    · simp only [listsV, List.map_map, List.getElem?_map, Option.map_eq_some_iff] at hv
      obtain ⟨x, hx, rfl⟩ := hv
      exact (hlp j x hx).1
    · simp only [List.getElem?_map, Option.map_eq_some_iff] at hi ⊢
      obtain ⟨x, hx, e⟩ := hi
      have := hlp i x hx
      rw [e] at this
      exact ⟨x.2, ⟨x, hx, rfl⟩, this.2.1, this.2.2.2⟩
theorem open_msg {W : World} {base : Nat} {v : Value} {d : DataW H} {p : List MemPlace} {te tn tb tl ti tu : TypeId} {fs : Array Field} {f0 f1 f2 f3 : Field} (he : P.underlying te = some (.struct fs)) (h0 : fs[0]? = some f0) (h1 : fs[1]? = some f1) (h2 : fs[2]? = some f2) (h3 : fs[3]? = some f3)
    (o0 : f0.offset = 0) (o1 : f1.offset = 1) (o2 : f2.offset = 2) (o3 : f3.offset = 3) (t1 : f1.type = tn) (t2 : f2.type = tb) (t3 : f3.type = tl)
    (i0 : P.underlying f0.type = some (.int .i64)) (s1 : P.underlying tn = some (.slice ti)) (ui : P.underlying ti = some (.int .i64)) (ci : P.cellsOf ti = 1) (s2 : P.underlying tb = some (.slice tu)) (uu : P.underlying tu = some (.int .u8)) (cu : P.cellsOf tu = 1) (s3 : P.underlying tl = some (.slice tb)) (cb : P.cellsOf tb = 1)
    (c0 : P.cellsOf f0.type = 1) (cn : P.cellsOf tn = 1) (cl : P.cellsOf tl = 1) (ce : P.cellsOf te = 4) (hval : Value.okWide P W .any base te v) (h : DataW.Trod enc P W 0 (fun _ => true) true te v d p) :
    ∃ m N nn nc B bn bc L ln lc, v = .agg #[.int .i64 m.k, .slice N nn nc, .slice B bn bc, .slice L ln lc] ∧ MsgAt W m N nn nc B bn bc L ln lc := by
  subst t1; subst t2; subst t3
  obtain ⟨cs, rfl, hsz⟩ := okWide_struct he hval
  obtain ⟨l⟩ := cs
  match l, hsz.trans ce with
  | [x0, x1, x2, x3], _ =>
    obtain ⟨fuel, hf⟩ := h
    obtain ⟨xs, n', _, _, _, hxl, hg⟩ := DataW.trod_struct he hf
    have e0 := hg 0 f0 h0
    have e1 := hg 1 f1 h1
    have e2 := hg 2 f2 h2
    have e3 := hg 3 f3 h3
    rw [o0, c0] at e0
    rw [o1, cn] at e1
    rw [o2, cb] at e2
    rw [o3, cl] at e3
    simp only [Value.cells, List.drop_zero, List.take_succ_cons, List.take_zero, List.drop_succ_cons] at e0 e1 e2 e3
    have hs : ∀ j f, fs[j]? = some f → j < xs.length := fun j f hj => by rw [hxl]; exact (Array.getElem?_eq_some_iff.1 hj).1
    rw [List.getElem?_eq_getElem (hs 0 _ h0)] at e0
    rw [List.getElem?_eq_getElem (hs 1 _ h1)] at e1
    rw [List.getElem?_eq_getElem (hs 2 _ h2)] at e2
    rw [List.getElem?_eq_getElem (hs 3 _ h3)] at e3
    obtain ⟨kv, hk, _, hw⟩ := DataW.trod_int i0 e0
    obtain ⟨N, nn, nc, ns, q1, q2, q3, q4, q5⟩ := nums_of_trod s1 ui ci e1
    obtain ⟨B, bn, bc, bs, r1, r2, r3, r4, r5⟩ := bytes_of_trod s2 uu cu e2
    obtain ⟨L, ln, lc, ps, ts, u1, u2, u3, u4, u5, u6⟩ := texts_of_trod s3 s2 uu cu cb e3
    simp only [List.cons.injEq, and_true] at hk
    subst hk; subst q1; subst r1; subst u1
    have hw2 := bounds_i64 hw
    exact ⟨⟨kv, ns, bs, ts⟩, N, nn, nc, B, bn, bc, L, ln, lc, rfl, hw2.1, hw2.2, q2, q3, q4, q5, r2, Nat.le_trans r3 r4, r5, u2, u3, u4, ps, u5, u6⟩
end
end Go.Proofs.Ytmlmkfooiikcgaa
