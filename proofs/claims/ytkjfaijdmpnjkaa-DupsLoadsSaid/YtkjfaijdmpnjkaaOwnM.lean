/-
  Rows of one's own whose elements have several cells: what outlasts further calls, stores into them, appends to them. They speak of no program of ours. No condition but what each lemma names.
-/
import Derived.Test.YtkjfaijdmpnjkaaKept
import Derived.StillTailTactics
import Derived.BigQuiet
import Derived.BigRegion
import Derived.OwnWalk
import Derived.Deep.DeepCutAuto
import Derived.Deep.WholeRow
import Derived.Deep.QuietTactic
import Derived.Deep.RegionLaw
import Derived.Laws.Cover3
import Derived.Deep.MidRow
namespace Go.Proofs.Ytkjfaijdmpnjkaa
open Go.ChangeShapes Go.WideShapes Go.ChangeAt Go.RowKit
set_option linter.unusedVariables false

theorem own_formM {w : World} {base : Nat} {e : TypeId} {z : Nat} {v : Value} {n : Nat} {xs : List Value} (h : w.ownsRow base e z v n xs) : ∃ A c, v = .slice A n c := by
  rcases h.2 with ⟨rfl, rfl⟩ | ⟨g, cap, cur, rfl, _⟩
  · exact ⟨_, _, rfl⟩
  · exact ⟨_, _, rfl⟩
theorem own_turnedM {p : Nat → Prop} {w w' : World} {base z : Nat} {e : TypeId} {v : Value} {n : Nat} {xs : List Value} (h : Turned p w w') (ho : w.ownsRow base e z v n xs) (hn : ∀ k, v.ownBlock = some k → ¬ p k) : w'.ownsRow base e z v n xs := by
  refine ⟨ho.1, ?_⟩
  rcases ho.2 with h2 | ⟨g, cap, cur, rfl, hg, hh, r⟩
  · exact .inl h2
  · exact .inr ⟨g, cap, cur, rfl, hg, h.heap hh (hn g rfl), r⟩
theorem own_belowM {w w' : World} {b : Nat} {e : TypeId} {z : Nat} {v : Value} {n : Nat} {xs : List Value} (h : w.ownsRow b e z v n xs) (hb : Below w.heap.size w w') : w'.ownsRow b e z v n xs := own_turnedM (Turned.of_below (p := fun _ => False) hb) h fun _ _ e => e
theorem own_baseM {w : World} {b b' : Nat} {e : TypeId} {z : Nat} {v : Value} {n : Nat} {xs : List Value} (h : w.ownsRow b e z v n xs) (hb : b' ≤ b) : w.ownsRow b' e z v n xs := by
  refine ⟨h.1, ?_⟩
  rcases h.2 with h2 | ⟨g, cap, cur, rfl, hg, r⟩
  · exact .inl h2
  · exact .inr ⟨g, cap, cur, rfl, by omega, r⟩
theorem row_blockM {w : World} {base z n : Nat} {e : TypeId} {v : Value} {xs : List Value} (h : w.ownsRow base e z v n xs) {k : Nat} (hk : v.ownBlock = some k) : ∃ cs, w.heap[k]? = some (.cells cs e (0, 0)) := by
  rcases h.2 with ⟨rfl, _⟩ | ⟨g, cap, cur, rfl, _, hh, _⟩
  · cases hk
  · injection hk with hk
    subst hk
    exact ⟨cur, hh⟩
theorem own_capL {w : World} {base z n c : Nat} {A : Option Addr} {e : TypeId} {xs : List Value} (h : w.ownsRow base e z (.slice A n c) n xs) : n ≤ c ∧ c ≤ maxLen := by
  rcases h.2 with ⟨hv, _⟩ | ⟨g', cap, cur, hv, _, _, h1, h2, _⟩
  · injection hv with h1 h2 h3
    subst h2; subst h3
    exact ⟨Nat.le_refl _, Nat.zero_le _⟩
  · injection hv with _ _ h3
    subst h3
    exact ⟨h1, h2⟩
theorem own_seenM {w : World} {base z n c : Nat} {A : Option Addr} {e : TypeId} {xs : List Value} (h : w.ownsRow base e z (.slice A n c) n xs) : Seen w A xs := by
  rcases h.2 with ⟨hv, hn⟩ | ⟨g, cap, cur, hv, _, hh, h1, h2, h3, h4⟩
  · refine .inl ?_
    have := h.1
    exact List.length_eq_zero_iff.1 (by rw [this, hn]; simp)
  · injection hv with hA _ _
    refine .inr ⟨g, 0, hA, fun j v hj => ?_⟩
    have hjl := (List.getElem?_eq_some_iff.1 hj).1
    rw [Nat.zero_add, row_cell hh]
    rw [← h4, List.getElem?_take] at hj
    split at hj
    · simpa using hj
    · cases hj
theorem turned_cellsI {p : Nat → Prop} {a : World} {b : Nat} (hb : b < a.heap.size → p b) : ∀ (vs : List Value) (o : Nat) (w : World), Turned p a w → Turned p a (w.setCells b o vs)
  | [], o, w, h => h
  | v :: r, o, w, h => turned_cellsI hb r (o + 1) (w.setCell ⟨b, o, none⟩ v) (h.setCell (b := ⟨b, o, none⟩) hb v)
theorem set_row {b : Nat} {e : TypeId} {Z : List Value} : ∀ (vs X Y : List Value) (w : World) (o : Nat), w.heap[b]? = some (.cells (X ++ Y ++ Z).toArray e (0, 0)) → vs.length = Y.length → X.length = o → (w.setCells b o vs).heap[b]? = some (.cells (X ++ vs ++ Z).toArray e (0, 0))
  | [], X, [], w, o, h, _, _ => h
  | [], X, y :: Y, w, o, h, hl, _ => by simp at hl
  | v :: r, X, [], w, o, h, hl, _ => by simp at hl
  | v :: r, X, y :: Y, w, o, h, hl, ho => by
    have h1 := row_set h o v
    have e1 : (X ++ y :: Y ++ Z).toArray.setIfInBounds o v = ((X ++ [v]) ++ Y ++ Z).toArray := by
      subst ho
      apply Array.ext'
      simp
    rw [e1] at h1
    have := set_row r (X ++ [v]) Y (w.setCell ⟨b, o, none⟩ v) (o + 1) h1 (by simpa using hl) (by simp [ho])
    have e2 : X ++ v :: r ++ Z = X ++ [v] ++ r ++ Z := by simp
    rw [e2]
    exact this
theorem own_cell1 {w : World} {B g n c z o : Nat} {T : TypeId} {xs : List Value} (h : w.ownsRow B T z (.slice (some ⟨g, 0, none⟩) n c) n xs) (ho : o < xs.length) (v : Value) :
    (w.setCell ⟨g, o, none⟩ v).ownsRow B T z (.slice (some ⟨g, 0, none⟩) n c) n (xs.set o v) ∧ Turned (fun b => b = g) w (w.setCell ⟨g, o, none⟩ v) ∧ (∃ x, w.cell? ⟨g, o, none⟩ = some x) ∧ w.frozen? ⟨g, o, none⟩ = false := by
  have hlen := h.1
  rcases h.2 with ⟨hv, _⟩ | ⟨g', cap, cur, hv, hg, hh, h1, h2, h3, h4⟩
  · cases hv
  injection hv with hv _ hc
  injection hv with hv
  injection hv with hv
  subst hv; subst hc
  have hs := row_set hh o v
  have hcl : o < cur.size := by
    have := congrArg List.length h4
    rw [List.length_take, Array.length_toList] at this
    omega
  refine ⟨⟨by rw [List.length_set]; exact hlen, .inr ⟨g, c, _, rfl, hg, hs, h1, h2, by simpa using h3, ?_⟩⟩, (Turned.refl (fun b => b = g) w).setCell (b := ⟨g, o, none⟩) (fun _ => rfl) _, ⟨_, by rw [row_cell hh, Array.getElem?_eq_getElem hcl]⟩, row_frozen hh _⟩
  rw [← h4, Array.toList_setIfInBounds, List.take_set]
theorem own_cells {w : World} {B g n c z o : Nat} {T : TypeId} {xs new : List Value} (h : w.ownsRow B T z (.slice (some ⟨g, 0, none⟩) n c) n xs) (ho : o + new.length ≤ xs.length) :
    (w.setCells g o new).ownsRow B T z (.slice (some ⟨g, 0, none⟩) n c) n (xs.take o ++ new ++ xs.drop (o + new.length)) ∧ Turned (fun b => b = g) w (w.setCells g o new) ∧ w.there g o new.length := by
  have hlen := h.1
  rcases h.2 with ⟨hv, _⟩ | ⟨g', cap, cur, hv, hg, hh, h1, h2, h3, h4⟩
  · cases hv
  injection hv with hv _ hc
  injection hv with hv
  injection hv with hv
  subst hv; subst hc
  obtain ⟨Z, hZ⟩ : ∃ Z, cur.toList.drop (n * z) = Z := ⟨_, rfl⟩
  have e2 : cur.toList = xs ++ Z := by rw [← h4, ← hZ, List.take_append_drop]
  have e1 : xs = xs.take o ++ (xs.drop o).take new.length ++ xs.drop (o + new.length) := by
    rw [List.append_assoc]
    conv => lhs; rw [← List.take_append_drop o xs, ← List.take_append_drop new.length (xs.drop o), List.drop_drop]
  have ecur : cur = (xs.take o ++ (xs.drop o).take new.length ++ (xs.drop (o + new.length) ++ Z)).toArray := by
    apply Array.ext'
    rw [e2]
    conv => lhs; rw [e1]
    simp [List.append_assoc]
  have hrow : w.heap[g]? = some (.cells (xs.take o ++ (xs.drop o).take new.length ++ (xs.drop (o + new.length) ++ Z)).toArray T (0, 0)) := by rw [← ecur]; exact hh
  have hs := set_row (b := g) (e := T) (Z := xs.drop (o + new.length) ++ Z) new (xs.take o) ((xs.drop o).take new.length) w o hrow (by rw [List.length_take, List.length_drop]; omega) (by rw [List.length_take]; omega)
  have hsz : cur.size = xs.length + Z.length := by rw [← Array.length_toList, e2, List.length_append]
  have hl3 : (xs.take o ++ new ++ xs.drop (o + new.length)).length = n * z := by
    rw [List.length_append, List.length_append, List.length_take, List.length_drop]; omega
  refine ⟨⟨hl3, .inr ⟨g, c, _, rfl, hg, hs, h1, h2, ?_, ?_⟩⟩, turned_cellsI (p := fun k => k = g) (fun _ => rfl) _ _ _ (Turned.refl _ _), fun q hq => ⟨by rw [row_cell hh, Array.getElem?_eq_getElem (by omega)]; rfl, row_frozen hh _⟩⟩
  · rw [List.size_toArray, ← List.append_assoc, List.length_append, hl3]
    omega
  · show List.take (n * z) (xs.take o ++ new ++ (xs.drop (o + new.length) ++ Z)) = _
    rw [← List.append_assoc, ← hl3, List.take_left]
section
variable {P : Program} {w : World}
theorem wpList_app3 {ops : Array Oper} {rest : List Oper} {o : Oper} {a : Act} {Q : Exit → Act → World → Prop} (hgd : o.guard = none) (s x : Operand) (t : TypeId)
    (ho : o.op = .call { callee := .builtin .append, args := #[s, x], argTypes := #[t, t] })
    (e : TypeId) (z : Value) (size bytes : Nat) (ht : P.underlying t = some (.slice e)) (hinfo : (P.info? e).map (fun i => (i.zero, i.size, i.bytes)) = some (some z, size, bytes)) (hz1 : z.cells.size = size) (hsz : 0 < size)
    (base : Nat) (A : Option Addr) (n c : Nat) (xs : List Value) (hs : a.eval s = .slice A n c) (hown : w.ownsRow base e size (.slice A n c) n xs)
    (g2 o2 m c2 : Nat) (news : List Value) (hx : a.eval x = .slice (some ⟨g2, o2, none⟩) m c2) (hm : news.length = m * size) (hsee : Seen w (some ⟨g2, o2, none⟩) news) (h1 : ∀ u ∈ news, u.oneCell' = true)
    (h63 : n + m ≤ maxLen) (hbytes : (n + m) * bytes ≤ 140737488355328) (hbase : base ≤ w.heap.size)
    (h : ∀ A' c' w', w'.ownsRow base e size (.slice A' (n + m) c') (n + m) (xs ++ news) → w.grownBy w' (Value.slice A n c).ownBlock → (∀ k, (Value.slice A' (n + m) c').ownBlock = some k → (Value.slice A n c).ownBlock = some k ∨ k = w.heap.size) →
      wpList P ops Q rest (a.put o.dst (.slice A' (n + m) c')) w') : wpList P ops Q (o :: rest) a w :=
  wpList_plain hgd fun K hK => by
    obtain ⟨i, hi, hz, hss, hb⟩ := info_parts hinfo
    have hcells : ∀ (j : Nat) u, news[j]? = some u → w.cell? ((⟨g2, o2, none⟩ : Addr).add j) = some u := by
      intro j u hu
      rcases hsee with rfl | ⟨g, o, hA, hc⟩
      · simp at hu
      · injection hA with hA
        rw [hA, Addr.add_lit]
        exact hc j u hu
    obtain ⟨v', w', hrun, hown', hg, _, hblk⟩ := run_append_own_at (P := P) w base t o.type e i z size bytes ht hi hz hss hb hz1 hsz _ n xs hown ⟨g2, o2, none⟩ m c2 news hm hcells h1 h63 hbytes hbase
    obtain ⟨A', c', rfl⟩ := own_formM hown'
    unfold Oper.wp execOp
    simp only [ho, resolve, invoke, builtin, Sem.run_bind, Sem.run_pure, Result.andThen_ok, List.map_toArray, List.map_cons, List.map_nil, hs, hx, hrun]
    refine hK _ _ (h A' c' w' hown' hg fun k hk => ?_)
    rcases hblk with h | h
    · exact .inl (by rw [← h]; exact hk)
    · rw [h] at hk
      injection hk with hk
      exact .inr hk.symm
end

section
variable {P : Program} {w : World}
/-- the same from whatever slice reads as 'news', nil let in -/
theorem wpList_appM {ops : Array Oper} {rest : List Oper} {o : Oper} {a : Act} {Q : Exit → Act → World → Prop} (hgd : o.guard = none) (s x : Operand) (t : TypeId)
    (ho : o.op = .call { callee := .builtin .append, args := #[s, x], argTypes := #[t, t] })
    (e : TypeId) (z : Value) (size bytes : Nat) (ht : P.underlying t = some (.slice e)) (hinfo : (P.info? e).map (fun i => (i.zero, i.size, i.bytes)) = some (some z, size, bytes)) (hz1 : z.cells.size = size) (hsz : 0 < size)
    (base : Nat) (A : Option Addr) (n c : Nat) (xs : List Value) (hs : a.eval s = .slice A n c) (hown : w.ownsRow base e size (.slice A n c) n xs)
    (A2 : Option Addr) (m c2 : Nat) (news : List Value) (hx : a.eval x = .slice A2 m c2) (hm : news.length = m * size) (hsee : Seen w A2 news) (h1 : ∀ u ∈ news, u.oneCell' = true)
    (h63 : n + m ≤ maxLen) (hbytes : (n + m) * bytes ≤ 140737488355328) (hbase : base ≤ w.heap.size)
    (h : ∀ A' c' w', w'.ownsRow base e size (.slice A' (n + m) c') (n + m) (xs ++ news) → w.grownBy w' (Value.slice A n c).ownBlock → (∀ k, (Value.slice A' (n + m) c').ownBlock = some k → (Value.slice A n c).ownBlock = some k ∨ k = w.heap.size) →
      wpList P ops Q rest (a.put o.dst (.slice A' (n + m) c')) w') : wpList P ops Q (o :: rest) a w :=
  wpList_plain hgd fun K hK => by
    obtain ⟨i, hi, hz, hss, hb⟩ := info_parts hinfo
    have hrun : ∃ A' c' w', (Builtin.append_ #[t, t] o.type #[.slice A n c, .slice A2 m c2]).run P w = .ok (.slice A' (n + m) c') w' ∧ w'.ownsRow base e size (.slice A' (n + m) c') (n + m) (xs ++ news) ∧ w.grownBy w' (Value.slice A n c).ownBlock ∧
        (∀ k, (Value.slice A' (n + m) c').ownBlock = some k → (Value.slice A n c).ownBlock = some k ∨ k = w.heap.size) := by
      cases A2 with
      | none =>
        have hn : news = [] := by
          rcases hsee with h | ⟨g, o, hA, _⟩
          · exact h
          · cases hA
        subst hn
        have hm0 : m = 0 := by
          rcases Nat.eq_zero_or_pos m with h | h
          · exact h
          · have := Nat.mul_pos h hsz
            simp at hm; omega
        subst hm0
        refine ⟨A, c, w, ?_, by simpa using hown, ⟨rfl, rfl, rfl, Nat.le_refl _, fun _ _ _ => rfl⟩, fun k hk => .inl hk⟩
        rcases hown.2 with ⟨hv, hn⟩ | ⟨g, cap, cur, hv, _, _, hnc, _⟩
        · injection hv with h1 h2 h3
          subst h1; subst h2; subst h3
          simp [Builtin.append_, run_underlying ht, sizeOf, typeInfo, hi, Builtin.lenOf, Builtin.firstCells]
        · injection hv with h1 h2 h3
          subst h1; subst h3
          simp [Builtin.append_, run_underlying ht, sizeOf, typeInfo, hi, Builtin.lenOf, Builtin.firstCells, hnc, storeCells]
      | some ad =>
        have hcells : ∀ (j : Nat) u, news[j]? = some u → w.cell? (ad.add j) = some u := by
          intro j u hu
          rcases hsee with rfl | ⟨g, o, hA, hc⟩
          · simp at hu
          · injection hA with hA
            rw [hA, Addr.add_lit]
            exact hc j u hu
        obtain ⟨v', w', hrun, hown', hg, _, hblk⟩ := run_append_own_at (P := P) w base t o.type e i z size bytes ht hi hz hss hb hz1 hsz _ n xs hown ad m c2 news hm hcells h1 h63 hbytes hbase
        obtain ⟨A', c', rfl⟩ := own_formM hown'
        refine ⟨A', c', w', hrun, hown', hg, fun k hk => ?_⟩
        rcases hblk with h | h
        · exact .inl (by rw [← h]; exact hk)
        · rw [h] at hk
          injection hk with hk
          exact .inr hk.symm
    obtain ⟨A', c', w', hrun, hown', hg, hblk⟩ := hrun
    unfold Oper.wp execOp
    simp only [ho, resolve, invoke, builtin, Sem.run_bind, Sem.run_pure, Result.andThen_ok, List.map_toArray, List.map_cons, List.map_nil, hs, hx, hrun]
    exact hK _ _ (h A' c' w' hown' hg hblk)
end
section
variable {P : Program} {w : World}
/-- the same from whatever slice reads as 'news', nil let in -/
theorem wp_appL {o : Oper} {a : Act} {K : Act → World → Prop} {Q : Exit → Act → World → Prop} (s x : Operand) (t : TypeId)
    (ho : o.op = .call { callee := .builtin .append, args := #[s, x], argTypes := #[t, t] })
    (e : TypeId) (z : Value) (size bytes : Nat) (ht : P.underlying t = some (.slice e)) (hinfo : (P.info? e).map (fun i => (i.zero, i.size, i.bytes)) = some (some z, size, bytes)) (hz1 : z.cells.size = size) (hsz : 0 < size)
    (base : Nat) (A : Option Addr) (n c : Nat) (xs : List Value) (hs : a.eval s = .slice A n c) (hown : w.ownsRow base e size (.slice A n c) n xs)
    (A2 : Option Addr) (m c2 : Nat) (news : List Value) (hx : a.eval x = .slice A2 m c2) (hm : news.length = m * size) (hsee : Seen w A2 news) (h1 : ∀ u ∈ news, u.oneCell' = true)
    (h63 : n + m ≤ maxLen) (hbytes : (n + m) * bytes ≤ 140737488355328) (hbase : base ≤ w.heap.size)
    (h : ∀ A' c' w', w'.ownsRow base e size (.slice A' (n + m) c') (n + m) (xs ++ news) → w.grownBy w' (Value.slice A n c).ownBlock → (∀ k, (Value.slice A' (n + m) c').ownBlock = some k → (Value.slice A n c).ownBlock = some k ∨ k = w.heap.size) →
      K (a.put o.dst (.slice A' (n + m) c')) w') : Oper.wp P o a w K Q := by
  obtain ⟨i, hi, hz, hss, hb⟩ := info_parts hinfo
  have hrun : ∃ A' c' w', (Builtin.append_ #[t, t] o.type #[.slice A n c, .slice A2 m c2]).run P w = .ok (.slice A' (n + m) c') w' ∧ w'.ownsRow base e size (.slice A' (n + m) c') (n + m) (xs ++ news) ∧ w.grownBy w' (Value.slice A n c).ownBlock ∧
      (∀ k, (Value.slice A' (n + m) c').ownBlock = some k → (Value.slice A n c).ownBlock = some k ∨ k = w.heap.size) := by
    cases A2 with
    | none =>
      have hn : news = [] := by
        rcases hsee with h | ⟨g, o, hA, _⟩
        · exact h
        · cases hA
      subst hn
      have hm0 : m = 0 := by
        rcases Nat.eq_zero_or_pos m with h | h
        · exact h
        · have := Nat.mul_pos h hsz
          simp at hm; omega
      subst hm0
      refine ⟨A, c, w, ?_, by simpa using hown, ⟨rfl, rfl, rfl, Nat.le_refl _, fun _ _ _ => rfl⟩, fun k hk => .inl hk⟩
      rcases hown.2 with ⟨hv, hn⟩ | ⟨g, cap, cur, hv, _, _, hnc, _⟩
      · injection hv with h1 h2 h3
        subst h1; subst h2; subst h3
        simp [Builtin.append_, run_underlying ht, sizeOf, typeInfo, hi, Builtin.lenOf, Builtin.firstCells]
      · injection hv with h1 h2 h3
        subst h1; subst h3
        simp [Builtin.append_, run_underlying ht, sizeOf, typeInfo, hi, Builtin.lenOf, Builtin.firstCells, hnc, storeCells]
    | some ad =>
      have hcells : ∀ (j : Nat) u, news[j]? = some u → w.cell? (ad.add j) = some u := by
        intro j u hu
        rcases hsee with rfl | ⟨g, o, hA, hc⟩
        · simp at hu
        · injection hA with hA
          rw [hA, Addr.add_lit]
          exact hc j u hu
      obtain ⟨v', w', hrun, hown', hg, _, hblk⟩ := run_append_own_at (P := P) w base t o.type e i z size bytes ht hi hz hss hb hz1 hsz _ n xs hown ad m c2 news hm hcells h1 h63 hbytes hbase
      obtain ⟨A', c', rfl⟩ := own_formM hown'
      refine ⟨A', c', w', hrun, hown', hg, fun k hk => ?_⟩
      rcases hblk with h | h
      · exact .inl (by rw [← h]; exact hk)
      · rw [h] at hk
        injection hk with hk
        exact .inr hk.symm
  obtain ⟨A', c', w', hrun, hown', hg, hblk⟩ := hrun
  unfold Oper.wp execOp
  simp only [ho, resolve, invoke, builtin, Sem.run_bind, Sem.run_pure, Result.andThen_ok, List.map_toArray, List.map_cons, List.map_nil, hs, hx, hrun]
  exact (h A' c' w' hown' hg hblk)
end
/-- an empty row that was laid just now -/
theorem bs_own {w : World} {B : Nat} (e : TypeId) (z : Nat) (hB : B ≤ w.heap.size) : (w.alloc (.cells #[] e)).ownsRow B e z (.slice (some ⟨w.heap.size, 0, none⟩) 0 0) 0 [] :=
  ⟨by simp, .inr ⟨w.heap.size, 0, #[], rfl, hB, heap_alloc_new _ _, Nat.le_refl _, Nat.zero_le _, by simp, by simp⟩⟩
end Go.Proofs.Ytkjfaijdmpnjkaa
