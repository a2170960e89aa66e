/-
  Contracts of dotterelref08's First, Out. Conditions: what each names.
-/
import Derived.Test.YtbialoaphgmigaaMailI
import Derived.Deep.QuietTactic
import Derived.Deep.RegionLaw
namespace Go.Proofs.Ytbialoaphgmigaa
open Go.ChangeShapes Go.WideShapes Go.ChangeAt Go.RowKit Go.Conc
set_option linter.unusedVariables false

/-! ### First -/
/-- the first of the lowest class stands at a -/
def IsFirst (X : List It) (a : Nat) : Prop := ∃ p : It, X[a]? = some p ∧ (∀ (j : Nat) (p' : It), X[j]? = some p' → p.cl ≤ p'.cl) ∧ (∀ (j : Nat) (p' : It), j < a → X[j]? = some p' → p.cl < p'.cl)
theorem snoc_get {X : List It} {p q : It} {j : Nat} (h : (X ++ [p])[j]? = some q) : (j < X.length ∧ X[j]? = some q) ∨ (j = X.length ∧ q = p) := by
  by_cases hj : j < X.length
  · rw [List.getElem?_append_left hj] at h
    exact .inl ⟨hj, h⟩
  · have hl := (List.getElem?_eq_some_iff.1 h).1
    rw [List.length_append, List.length_singleton] at hl
    have : j = X.length := by omega
    subst this
    rw [List.getElem?_concat_length] at h
    injection h with h
    exact .inr ⟨rfl, h.symm⟩
theorem IsFirst.one (p : It) : IsFirst ([] ++ [p]) 0 := ⟨p, rfl, fun j q h => by rcases snoc_get h with ⟨h, _⟩ | ⟨_, rfl⟩; (exact absurd h (by simp)); exact Int.le_refl _, fun j q hj => by omega⟩
theorem IsFirst.new {X : List It} {a : Nat} {p p0 : It} (h : IsFirst X a) (h0 : X[a]? = some p0) (hlt : p.cl < p0.cl) : IsFirst (X ++ [p]) X.length := by
  obtain ⟨q, e, h1, h2⟩ := h
  rw [h0] at e
  injection e with e
  subst e
  refine ⟨p, List.getElem?_concat_length, fun j q h => ?_, fun j q hj h => ?_⟩
  · rcases snoc_get h with ⟨_, h⟩ | ⟨_, rfl⟩
    · have := h1 j q h; omega
    · exact Int.le_refl _
  · rcases snoc_get h with ⟨_, h⟩ | ⟨e, rfl⟩
    · have := h1 j q h; omega
    · omega
theorem IsFirst.old {X : List It} {a : Nat} {p p0 : It} (h : IsFirst X a) (h0 : X[a]? = some p0) (hlt : ¬ p.cl < p0.cl) : IsFirst (X ++ [p]) a := by
  obtain ⟨q, e, h1, h2⟩ := h
  rw [h0] at e
  injection e with e
  subst e
  have ha := (List.getElem?_eq_some_iff.1 h0).1
  refine ⟨p0, by rw [List.getElem?_append_left ha]; exact h0, fun j q h => ?_, fun j q hj h => ?_⟩
  · rcases snoc_get h with ⟨_, h⟩ | ⟨_, rfl⟩
    · exact h1 j q h
    · omega
  · rcases snoc_get h with ⟨_, h⟩ | ⟨e, rfl⟩
    · exact h2 j q hj h
    · omega
/-- what First says of X -/
def FirstIs (X : List It) (v : Int) : Prop := (X = [] ∧ v = -1) ∨ ∃ a : Nat, v = (a : Int) ∧ a < X.length ∧ IsFirst X a

set_option maxRecDepth 100000 in
theorem First_any (base : Nat) (A : Option Addr) (n c : Nat) (X : List It) (w : World) (h : ItsAt w base A n c X) (hn : n ≤ 100000) :
    Calls Try.prog 10 #[.slice A n c] w fun e w' => ∃ v, e = .returned (.int .i64 v) ∧ FirstIs X v ∧ Below w.heap.size w w' := by
  have H := Lib.hid h
  have Hxl := Lib.hid h.1
  clear h
  go_enter Try.func10, Try.ntmps10
  go_wp2
  go_loopw [3, 4] (fun av iv wr => ∃ (i : Nat) (v : Int), i ≤ n ∧ iv = .int .i64 (i : Int) ∧ av = .int .i64 v ∧ FirstIs (X.take i) v ∧ Below w.heap.size w wr) (fun _ iv _ => n - (intOf iv).toNat)
  case atStart => exact ⟨0, -1, by omega, rfl, rfl, .inl ⟨rfl, rfl⟩, Below.refl _ _⟩
  case round =>
    obtain ⟨i, v, hin, rfl, rfl, hf, hb⟩ := hrel
    have Hb := Lib.hid hb
    clear hb
    by_cases hi : i < n
    · obtain ⟨g, p, rfl, hq, htk, c0, _, _, _⟩ := (H.out.below Hb.out).get hi
      have i0 : (0 : Int) ≤ (i : Int) := by omega
      have i1 : (i : Int) < (n : Int) := by omega
      have hil : (X.take i).length = i := by rw [List.length_take, Hxl.out]; omega
      have Htk := Lib.hid htk; have Hil := Lib.hid hil
      clear htk hil
      rcases hf with ⟨he, rfl⟩ | ⟨a, rfl, ha, hfa⟩
      · have hi0 : i = 0 := by rw [← Hil.out, he]; rfl
        have Hnew := Lib.hid (show FirstIs (X.take (i + 1)) (i : Int) from .inr ⟨i, rfl, by rw [List.length_take, Hxl.out]; omega, by rw [Htk.out, he]; subst hi0; exact IsFirst.one p⟩)
        clear hq he hi0
        go_wp2
        go_quiet (fail)
        go_wp2
        go_roundw
        case rel => exact ⟨i + 1, _, by omega, by go_num, rfl, Hnew.out, Below.trans Hb.out (below_drewN (Below.refl _ _) _)⟩
        case measure => simp [intOf]; omega
      · rw [Hil.out] at ha
        obtain ⟨g', p0, hA, hq0, _, c1, _, _, _⟩ := (H.out.below Hb.out).get (k := a) (by omega)
        injection hA with hA
        injection hA with hA
        subst hA
        have a0 : (0 : Int) ≤ (a : Int) := by omega
        have a1 : (a : Int) < (n : Int) := by omega
        have hq0' : (X.take i)[a]? = some p0 := by rw [List.getElem?_take, if_pos ha]; exact hq0
        by_cases hlt : p.cl < p0.cl
        · have Hnew := Lib.hid (show FirstIs (X.take (i + 1)) (i : Int) from .inr ⟨i, rfl, by rw [List.length_take, Hxl.out]; omega, by rw [Htk.out]; have := hfa.new hq0' hlt; rwa [Hil.out] at this⟩)
          clear hq hq0 hfa hq0'
          go_wp2
          go_quiet (fail)
          go_wp2
          go_roundw
          case rel => exact ⟨i + 1, _, by omega, by go_num, rfl, Hnew.out, Below.trans Hb.out (below_drewN (Below.refl _ _) _)⟩
          case measure => simp [intOf]; omega
        · have Hnew := Lib.hid (show FirstIs (X.take (i + 1)) (a : Int) from .inr ⟨a, rfl, by rw [List.length_take, Hxl.out]; omega, by rw [Htk.out]; exact hfa.old hq0' hlt⟩)
          clear hq hq0 hfa hq0'
          go_wp2
          go_quiet (fail)
          go_wp2
          go_roundw
          case rel => exact ⟨i + 1, _, by omega, by go_num, rfl, Hnew.out, Below.trans Hb.out (below_drewN (Below.refl _ _) _)⟩
          case measure => simp [intOf]; omega
    · have i1 : ¬ (i : Int) < (n : Int) := by omega
      obtain rfl : i = n := by omega
      have hty : X.take i = X := List.take_of_length_le (by rw [Hxl.out]; exact Nat.le_refl _)
      rw [hty] at hf
      have Hf := Lib.hid hf
      clear hty hf
      go_wp2
      go_ret
      exact ⟨v, rfl, Hf.out, Hb.out⟩

/-! ### Out -/
section
variable {P : Program} {w : World}
/-- an append of elements of several cells -/
theorem wpList_appm {ops : Array Oper} {rest : List Oper} {o : Oper} {a : Act} {Q : Exit → Act → World → Prop} (hgd : o.guard = none) (s x : Operand) (t : TypeId)
    (ho : o.op = .call { callee := .builtin .append, args := #[s, x], argTypes := #[t, t] })
    (e : TypeId) (z : Value) (size bytes : Nat) (ht : P.underlying t = some (.slice e)) (hinfo : (P.info? e).map (fun i => (i.zero, i.size, i.bytes)) = some (some z, size, bytes)) (hz1 : z.cells.size = size) (hsz : 0 < size)
    (base : Nat) (A : Option Addr) (n c : Nat) (xs : List Value) (hs : a.eval s = .slice A n c) (hown : w.ownsRow base e size (.slice A n c) n xs)
    (g2 o2 m c2 : Nat) (news : List Value) (hx : a.eval x = .slice (some ⟨g2, o2, none⟩) m c2) (hm : news.length = m * size) (hsee : Seen w (some ⟨g2, o2, none⟩) news) (h1 : ∀ u ∈ news, u.oneCell' = true)
    (h63 : n + m ≤ maxLen) (hbytes : (n + m) * bytes ≤ 140737488355328) (hbase : base ≤ w.heap.size)
    (h : ∀ A' c' w', w'.ownsRow base e size (.slice A' (n + m) c') (n + m) (xs ++ news) → w.grownBy w' (Value.slice A n c).ownBlock → wpList P ops Q rest (a.put o.dst (.slice A' (n + m) c')) w') : wpList P ops Q (o :: rest) a w :=
  wpList_plain hgd fun K hK => by
    obtain ⟨i, hi, hz, hss, hb⟩ := info_parts hinfo
    have hcells : ∀ (j : Nat) u, news[j]? = some u → w.cell? ((⟨g2, o2, none⟩ : Addr).add j) = some u := by
      intro j u hu
      rcases hsee with rfl | ⟨g, o, hA, hc⟩
      · simp at hu
      · injection hA with hA
        rw [hA, Addr.add_lit]
        exact hc j u hu
    obtain ⟨v', w', hrun, hown', hg, _, hblk⟩ := run_append_own_at (P := P) w base t o.type e i z size bytes ht hi hz hss hb hz1 hsz _ n xs hown ⟨g2, o2, none⟩ m c2 news hm hcells h1 h63 hbytes hbase
    obtain ⟨A', c', rfl⟩ := own_formM hown'
    unfold Oper.wp execOp
    simp only [ho, resolve, invoke, builtin, Sem.run_bind, Sem.run_pure, Result.andThen_ok, List.map_toArray, List.map_cons, List.map_nil, hs, hx, hrun]
    exact hK _ _ (h A' c' w' hown' hg)
/-- an append, of elements of several cells, at a step of a region whose order is drawn -/
theorem step_appz {ops : Array Oper} {o : Oper} {a : Act} {K : Act → World → Prop} {Q : Exit → Act → World → Prop} {E : Prop} (hgd : o.guard = none) (s x : Operand) (t : TypeId)
    (ho : o.op = .call { callee := .builtin .append, args := #[s, x], argTypes := #[t, t] })
    (e : TypeId) (z : Value) (size bytes : Nat) (ht : P.underlying t = some (.slice e)) (hinfo : (P.info? e).map (fun i => (i.zero, i.size, i.bytes)) = some (some z, size, bytes)) (hz1 : z.cells.size = size) (hsz : 0 < size)
    (base : Nat) (A : Option Addr) (n c : Nat) (xs : List Value) (hs : a.eval s = .slice A n c) (hown : w.ownsRow base e size (.slice A n c) n xs)
    (g2 o2 m c2 : Nat) (news : List Value) (hx : a.eval x = .slice (some ⟨g2, o2, none⟩) m c2) (hm : news.length = m * size) (hsee : Seen w (some ⟨g2, o2, none⟩) news) (h1 : ∀ u ∈ news, u.oneCell' = true)
    (h63 : n + m ≤ maxLen) (hbytes : (n + m) * bytes ≤ 140737488355328) (hbase : base ≤ w.heap.size)
    (h : ∀ A' c' w', w'.ownsRow base e size (.slice A' (n + m) c') (n + m) (xs ++ news) → w.grownBy w' (Value.slice A n c).ownBlock → K (a.put o.dst (.slice A' (n + m) c')) w') : if Region.wanted o (yielded ops a.tmps) = true then Oper.wp P o a w K Q else E := by
  have hw : Region.wanted o (yielded ops a.tmps) = true := by simp [Region.wanted, hgd]
  rw [if_pos hw]
  obtain ⟨i, hi, hz, hss, hb⟩ := info_parts hinfo
  have hcells : ∀ (j : Nat) u, news[j]? = some u → w.cell? ((⟨g2, o2, none⟩ : Addr).add j) = some u := by
    intro j u hu
    rcases hsee with rfl | ⟨g, o, hA, hc⟩
    · simp at hu
    · injection hA with hA
      rw [hA, Addr.add_lit]
      exact hc j u hu
  obtain ⟨v', w', hrun, hown', hg, _, hblk⟩ := run_append_own_at (P := P) w base t o.type e i z size bytes ht hi hz hss hb hz1 hsz _ n xs hown ⟨g2, o2, none⟩ m c2 news hm hcells h1 h63 hbytes hbase
  obtain ⟨A', c', rfl⟩ := own_formM hown'
  unfold Oper.wp execOp
  simp only [ho, resolve, invoke, builtin, Sem.run_bind, Sem.run_pure, Result.andThen_ok, List.map_toArray, List.map_cons, List.map_nil, hs, hx, hrun]
  exact h A' c' w' hown' hg
end

set_option maxRecDepth 100000 in
theorem Out_any (base : Nat) (A : Option Addr) (n c : Nat) (X : List It) (k : Nat) (w : World) (h : ItsAt w base A n c X) (hn : n ≤ 100000) (hk : k < n) :
    Calls Try.prog 13 #[.slice A n c, .int .i64 (k : Int)] w fun e w' => ∃ A' c', e = .returned (.slice A' (n - 1) c') ∧ ItsAt w' w.heap.size A' (n - 1) c' (X.take k ++ X.drop (k + 1)) ∧ Below w.heap.size w w' := by
  have H := Lib.hid h
  have Hxl := Lib.hid h.1
  obtain ⟨g, cc, hf, hg1, hg2⟩ := h.2.form (by omega)
  injection hf with hf1 _ hf2
  subst hf1
  subst hf2
  have hnc : n ≤ c ∧ c ≤ maxLen := by
    rcases h.2.2 with ⟨e, _⟩ | ⟨g', cap, cur, e, _, _, e1, e2, _⟩
    · cases e
    · injection e with _ _ e3
      subst e3
      exact ⟨e1, e2⟩
  clear h
  have k0 : (0 : Int) ≤ (k : Int) := by omega
  have k1 : (k : Int) < (n : Int) := by omega
  have k2 : k ≤ c := by omega
  have k3 : (0 : Int) ≤ (k : Int) + 1 := by omega
  have k4 : (k : Int) + 1 ≤ (n : Int) := by omega
  have hm63 := hnc.2
  unfold maxLen at hm63
  have hwr : IntKind.i64.wrap ((k : Int) + 1) = (k : Int) + 1 := by unfold IntKind.wrap; simp [IntKind.signed, IntKind.bits]; omega
  have hown0 : ((w.alloc (.cells #[] 35)).drew).ownsRow w.heap.size 35 4 (.slice (some ⟨w.heap.size, 0, none⟩) 0 0) 0 [] := World.ownsRow_lit w #[] 0 (Nat.le_refl _) (by unfold maxLen; omega) rfl
  have hb0 : Below w.heap.size w ((w.alloc (.cells #[] 35)).drew) := ((Below.refl _ _).alloc (Nat.le_refl _) _).drew
  have Hown0 := Lib.hid hown0; have Hb0 := Lib.hid hb0; have Hnc := Lib.hid hnc
  clear hown0 hb0 hm63 hnc
  have Hs1 := Lib.hid (show ∀ w', Below w.heap.size w w' → Seen w' (some ⟨g, 0, none⟩) (itsV (X.take k)) from fun w' hb => by
    have h1 := (H.out.below hb).2
    refine .inr ⟨g, 0, rfl, fun j v hv => ?_⟩
    rw [← itsV_take, List.getElem?_take] at hv
    split at hv
    · rw [Nat.zero_add, h1.cellAt j (by omega)]; exact hv
    · cases hv)
  have Hs2 := Lib.hid (show ∀ w', Below w.heap.size w w' → Seen w' (some ⟨g, (k + 1) * 4, none⟩) (itsV (X.drop (k + 1))) from fun w' hb => by
    have h1 := (H.out.below hb).2
    refine .inr ⟨g, (k + 1) * 4, rfl, fun j v hv => ?_⟩
    rw [← itsV_drop, List.getElem?_drop] at hv
    have hl := (List.getElem?_eq_some_iff.1 hv).1
    rw [itsV_length, Hxl.out] at hl
    rw [h1.cellAt _ (by omega)]; exact hv)
  have Hl1 := Lib.hid (show (itsV (X.take k)).length = k * 4 by rw [itsV_length, List.length_take, Hxl.out]; congr 1; omega)
  have Hl2 := Lib.hid (show (itsV (X.drop (k + 1))).length = (n - (k + 1)) * 4 by rw [itsV_length, List.length_drop, Hxl.out])
  by_cases hcc : c = k + 1
  · subst hcc
    have hnk := Hnc.out.1
    obtain rfl : n = k + 1 := by omega
    clear hnk
    have k6 : (k : Int) ≤ (k : Int) + 1 := by omega
    go_enter Try.func13, Try.ntmps13
    go_wp2
    go_region_law (first
      | (refine step_appz (by rfl) (.tmp 5) (.tmp 8) _ (by rfl) 35 _ 4 48 Try.underlying26 item_info rfl (by omega) w.heap.size (some ⟨w.heap.size, 0, none⟩) 0 0 [] (by rfl) Hown0.out g 0 k (k + 1) (itsV (X.take k)) (by rfl) Hl1.out (Hs1.out _ Hb0.out) (itsV_one _) (by unfold maxLen; omega) (by omega) (by simp) ?_; intro A4 c4 w4 hown4 hg4; simp only [Nat.zero_add, List.nil_append] at hown4; have Hb4 := Lib.hid (Hb0.out.grown hg4 (by simp) (fun j hj => (Hown0.out.lt j hj).1)); have Hown4 := Lib.hid hown4; clear hg4 hown4; simp only [Nat.zero_add])
      | (refine step_appz (by rfl) (.tmp 9) (.tmp 13) _ (by rfl) 35 _ 4 48 Try.underlying26 item_info rfl (by omega) w.heap.size A4 k c4 (itsV (X.take k)) (by rfl) Hown4.out g 0 0 0 [] (by rfl) rfl (Seen.nil _ _) (by simp) (by unfold maxLen; omega) (by omega) Hb4.out.size ?_; intro A5 c5 w5 hown5 hg5; simp only [Nat.add_zero, List.append_nil] at hown5; have Hb5 := Lib.hid (Hb4.out.grown hg5 Hb4.out.size (fun j hj => (Hown4.out.lt j hj).1)); have Hown5 := Lib.hid hown5; clear hg5 hown5; simp only [Nat.add_zero]))
    all_goals
      go_wp2
      go_ret
      have hX : X.take k ++ X.drop (k + 1) = X.take k := by rw [List.drop_of_length_le (by rw [Hxl.out]; exact Nat.le_refl _), List.append_nil]
      rw [hX]
      exact ⟨A5, c5, rfl, ⟨by rw [List.length_take, Hxl.out]; omega, Hown5.out⟩, Hb5.out⟩
  · go_enter Try.func13, Try.ntmps13
    go_wp2
    go_region_law (first
      | (refine step_appz (by rfl) (.tmp 5) (.tmp 8) _ (by rfl) 35 _ 4 48 Try.underlying26 item_info rfl (by omega) w.heap.size (some ⟨w.heap.size, 0, none⟩) 0 0 [] (by rfl) Hown0.out g 0 k c (itsV (X.take k)) (by rfl) Hl1.out (Hs1.out _ Hb0.out) (itsV_one _) (by unfold maxLen; omega) (by omega) (by simp) ?_; intro A4 c4 w4 hown4 hg4; simp only [Nat.zero_add, List.nil_append] at hown4; have Hb4 := Lib.hid (Hb0.out.grown hg4 (by simp) (fun j hj => (Hown0.out.lt j hj).1)); have Hown4 := Lib.hid hown4; clear hg4 hown4; simp only [Nat.zero_add])
      | (refine step_appz (by rfl) (.tmp 9) (.tmp 13) _ (by rfl) 35 _ 4 48 Try.underlying26 item_info rfl (by omega) w.heap.size A4 k c4 (itsV (X.take k)) (by rfl) Hown4.out g ((k + 1) * 4) (n - (k + 1)) (c - (k + 1)) (itsV (X.drop (k + 1))) (by rfl) Hl2.out (Hs2.out _ Hb4.out) (itsV_one _) (by unfold maxLen; omega) (by omega) Hb4.out.size ?_; intro A5 c5 w5 hown5 hg5; have Hb5 := Lib.hid (Hb4.out.grown hg5 Hb4.out.size (fun j hj => (Hown4.out.lt j hj).1)); have Hown5 := Lib.hid hown5; clear hg5 hown5))
    all_goals
      go_wp2
      go_ret
      have hk5 : k + (n - (k + 1)) = n - 1 := by omega
      have ho := Hown5.out
      rw [hk5, ← itsV_append] at ho
      rw [hk5]
      exact ⟨A5, c5, rfl, ⟨by rw [List.length_append, List.length_take, List.length_drop, Hxl.out]; omega, ho⟩, Hb5.out⟩
end Go.Proofs.Ytbialoaphgmigaa
