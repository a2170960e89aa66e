/-
  The document's flows in memory (dotterelref12's Flow): a slice of them that reads as a list, each with its items; an append of elements of several cells from any slice. Of the program: nothing but types. Conditions: what each names.
-/
import Derived.Test.YtbfjakchgmdldaaGreatSchPush
import Derived.Test.YtbfjakchgmdldaaGreatHomGrow
namespace Go.Proofs.YtbfjakchgmdldaaGreat
open Go.ChangeShapes Go.WideShapes Go.ChangeAt Go.RowKit
set_option linter.unusedVariables false

/-! ### an append of elements of several cells, from any slice -/
section
variable {P : Program}
theorem run_app4 {w : World} (t ty e : TypeId) (z : Value) (size bytes : Nat) (ht : P.underlying t = some (.slice e)) (hinfo : (P.info? e).map (fun i => (i.zero, i.size, i.bytes)) = some (some z, size, bytes)) (hz1 : z.cells.size = size) (hsz : 0 < size)
    (base : Nat) (A : Option Addr) (n c : Nat) (xs : List Value) (hown : w.ownsRow base e size (.slice A n c) n xs) (A2 : Option Addr) (m c2 : Nat) (news : List Value) (hm : news.length = m * size) (hsee : Seen w A2 news)
    (h1 : ∀ u ∈ news, u.oneCell' = true) (h63 : n + m ≤ maxLen) (hbytes : (n + m) * bytes ≤ 140737488355328) (hbase : base ≤ w.heap.size) :
    ∃ A' c' w', (Builtin.append_ #[t, t] ty #[.slice A n c, .slice A2 m c2]).run P w = .ok (.slice A' (n + m) c') w' ∧ w'.ownsRow base e size (.slice A' (n + m) c') (n + m) (xs ++ news) ∧ w.grownBy w' (Value.slice A n c).ownBlock ∧
      (∀ k, (Value.slice A' (n + m) c').ownBlock = some k → (Value.slice A n c).ownBlock = some k ∨ k = w.heap.size) := by
  obtain ⟨i, hi, hz, hs, hb⟩ := info_parts hinfo
  cases A2 with
  | none =>
    have hn : news = [] := by
      rcases hsee with h | ⟨g, o, hA, _⟩
      · exact h
      · cases hA
    subst hn
    have hm0 : m = 0 := by
      have : 0 = m * size := hm
      rcases Nat.mul_eq_zero.1 this.symm with h | h
      · exact h
      · omega
    subst hm0
    refine ⟨A, c, w, ?_, by simpa using hown, ⟨rfl, rfl, rfl, Nat.le_refl _, fun _ _ _ => rfl⟩, fun k hk => .inl hk⟩
    rcases hown.2 with ⟨hv, hn⟩ | ⟨g, cap, cur, hv, _, _, hnc, _⟩
    · injection hv with h1 h2 h3
      subst h1; subst h2; subst h3
      simp [Builtin.append_, run_underlying ht, sizeOf, typeInfo, hi, Builtin.lenOf, Builtin.firstCells]
    · injection hv with h1 h2 h3
      subst h1; subst h3
      simp [Builtin.append_, run_underlying ht, sizeOf, typeInfo, hi, Builtin.lenOf, Builtin.firstCells, hnc, storeCells]
  | some ad =>
    have hcells : ∀ (j : Nat) u, news[j]? = some u → w.cell? (ad.add j) = some u := by
      intro j u hu
      rcases hsee with rfl | ⟨g, o, hA, hc⟩
      · simp at hu
      · injection hA with hA
        subst hA
        rw [Addr.add_lit]
        exact hc j u hu
    obtain ⟨v', w', hrun, hown', hg, _, hblk⟩ := run_append_own_at (P := P) w base t ty e i z size bytes ht hi hz hs hb hz1 hsz _ n xs hown ad m c2 news hm hcells h1 h63 hbytes hbase
    obtain ⟨A', c', rfl⟩ := own_formM hown'
    refine ⟨A', c', w', hrun, hown', hg, fun k hk => ?_⟩
    rcases hblk with h | h
    · exact .inl (by rw [← h]; exact hk)
    · rw [h] at hk
      injection hk with hk
      exact .inr hk.symm
theorem wpList_app4 {ops : Array Oper} {rest : List Oper} {o : Oper} {a : Act} {w : World} {Q : Exit → Act → World → Prop} (hgd : o.guard = none) (s x : Operand) (t : TypeId)
    (ho : o.op = .call { callee := .builtin .append, args := #[s, x], argTypes := #[t, t] })
    (e : TypeId) (z : Value) (size bytes : Nat) (ht : P.underlying t = some (.slice e)) (hinfo : (P.info? e).map (fun i => (i.zero, i.size, i.bytes)) = some (some z, size, bytes)) (hz1 : z.cells.size = size) (hsz : 0 < size)
    (base : Nat) (A : Option Addr) (n c : Nat) (xs : List Value) (hs : a.eval s = .slice A n c) (hown : w.ownsRow base e size (.slice A n c) n xs)
    (A2 : Option Addr) (m c2 : Nat) (news : List Value) (hx : a.eval x = .slice A2 m c2) (hm : news.length = m * size) (hsee : Seen w A2 news) (h1 : ∀ u ∈ news, u.oneCell' = true)
    (h63 : n + m ≤ maxLen) (hbytes : (n + m) * bytes ≤ 140737488355328) (hbase : base ≤ w.heap.size)
    (h : ∀ A' c' w', w'.ownsRow base e size (.slice A' (n + m) c') (n + m) (xs ++ news) → w.grownBy w' (Value.slice A n c).ownBlock → (∀ k, (Value.slice A' (n + m) c').ownBlock = some k → (Value.slice A n c).ownBlock = some k ∨ k = w.heap.size) →
      wpList P ops Q rest (a.put o.dst (.slice A' (n + m) c')) w') : wpList P ops Q (o :: rest) a w :=
  wpList_plain hgd fun K hK => by
    obtain ⟨A', c', w', hrun, h2, h3, h4⟩ := run_app4 (P := P) t o.type e z size bytes ht hinfo hz1 hsz base A n c xs hown A2 m c2 news hm hsee h1 h63 hbytes hbase
    unfold Oper.wp execOp
    simp only [ho, resolve, invoke, builtin, Sem.run_bind, Sem.run_pure, Result.andThen_ok, List.map_toArray, List.map_cons, List.map_nil, hs, hx, hrun]
    exact hK _ _ (h A' c' w' h2 h3 h4)
theorem step_app4 {ops : Array Oper} {o : Oper} {a : Act} {w : World} {K : Act → World → Prop} {Q : Exit → Act → World → Prop} {E : Prop} (hgd : o.guard = none) (s x : Operand) (t : TypeId)
    (ho : o.op = .call { callee := .builtin .append, args := #[s, x], argTypes := #[t, t] })
    (e : TypeId) (z : Value) (size bytes : Nat) (ht : P.underlying t = some (.slice e)) (hinfo : (P.info? e).map (fun i => (i.zero, i.size, i.bytes)) = some (some z, size, bytes)) (hz1 : z.cells.size = size) (hsz : 0 < size)
    (base : Nat) (A : Option Addr) (n c : Nat) (xs : List Value) (hs : a.eval s = .slice A n c) (hown : w.ownsRow base e size (.slice A n c) n xs)
    (A2 : Option Addr) (m c2 : Nat) (news : List Value) (hx : a.eval x = .slice A2 m c2) (hm : news.length = m * size) (hsee : Seen w A2 news) (h1 : ∀ u ∈ news, u.oneCell' = true)
    (h63 : n + m ≤ maxLen) (hbytes : (n + m) * bytes ≤ 140737488355328) (hbase : base ≤ w.heap.size)
    (h : ∀ A' c' w', w'.ownsRow base e size (.slice A' (n + m) c') (n + m) (xs ++ news) → w.grownBy w' (Value.slice A n c).ownBlock → K (a.put o.dst (.slice A' (n + m) c')) w') : if Region.wanted o (yielded ops a.tmps) = true then Oper.wp P o a w K Q else E := by
  have hw : Region.wanted o (yielded ops a.tmps) = true := by simp [Region.wanted, hgd]
  rw [if_pos hw]
  obtain ⟨A', c', w', hrun, h2, h3, h4⟩ := run_app4 (P := P) t o.type e z size bytes ht hinfo hz1 hsz base A n c xs hown A2 m c2 news hm hsee h1 h63 hbytes hbase
  unfold Oper.wp execOp
  simp only [ho, resolve, invoke, builtin, Sem.run_bind, Sem.run_pure, Result.andThen_ok, List.map_toArray, List.map_cons, List.map_nil, hs, hx, hrun]
  exact h A' c' w' h2 h3
end

/-! ### flows as cells -/
structure RF where
  id : Int
  f : Fl
  A : Option Addr
  c : Nat
def rfQ (r : RF) : Value := .slice r.A r.f.q.length r.c
def rfV (r : RF) : List Value := [.int .i64 r.id, .int .i64 r.f.ver, .int .i64 r.f.p.re, .int .i64 r.f.p.we, .int .i64 r.f.p.li, .int .i64 r.f.p.bu, .int .i64 r.f.c.r, .int .i64 r.f.c.p, .int .i64 r.f.c.l, .slice r.A r.f.q.length r.c]
def rfsV (y : List RF) : List Value := y.flatMap rfV
theorem rfsV_append (x y : List RF) : rfsV (x ++ y) = rfsV x ++ rfsV y := by simp [rfsV]
theorem rfsV_length (x : List RF) : (rfsV x).length = x.length * 10 := by
  induction x with
  | nil => rfl
  | cons p r ih =>
    have : (rfsV (p :: r)).length = 10 + (rfsV r).length := by simp [rfsV, rfV]; omega
    rw [this, ih, List.length_cons]; omega
theorem rfV_one (r : RF) : ∀ u ∈ rfV r, u.oneCell' = true := by
  intro u hu
  simp only [rfV, List.mem_cons, List.not_mem_nil, or_false] at hu
  rcases hu with rfl | rfl | rfl | rfl | rfl | rfl | rfl | rfl | rfl | rfl <;> rfl
theorem rfsV_one (y : List RF) : ∀ u ∈ rfsV y, u.oneCell' = true := by
  intro u hu
  simp only [rfsV, List.mem_flatMap] at hu
  obtain ⟨r, _, h⟩ := hu
  exact rfV_one r u h
theorem rfsV_at {y : List RF} {i : Nat} {r : RF} (h : y[i]? = some r) {j : Nat} (hj : j < 10) : (rfsV y)[i * 10 + j]? = (rfV r)[j]? := by
  obtain ⟨hi, rfl⟩ := List.getElem?_eq_some_iff.1 h
  have e : y = y.take i ++ ([y[i]] ++ y.drop (i + 1)) := by simp
  have e2 : rfsV y = rfsV (y.take i) ++ (rfsV [y[i]] ++ rfsV (y.drop (i + 1))) := by rw [← rfsV_append, ← rfsV_append, ← e]
  have hl : (rfsV (y.take i)).length = i * 10 := by rw [rfsV_length, List.length_take]; omega
  rw [e2, List.getElem?_append_right (by omega), hl, show i * 10 + j - i * 10 = j by omega, List.getElem?_append_left (by simp [rfsV, rfV]; omega)]
  simp [rfsV]
theorem rfsV_take (y : List RF) (k : Nat) : rfsV (y.take k) = (rfsV y).take (k * 10) := by
  by_cases h : k ≤ y.length
  · have e2 : rfsV y = rfsV (y.take k) ++ rfsV (y.drop k) := by rw [← rfsV_append, List.take_append_drop]
    have hl : (rfsV (y.take k)).length = k * 10 := by rw [rfsV_length, List.length_take]; omega
    generalize rfsV (y.take k) = a at e2 hl ⊢
    rw [e2, ← hl, List.take_left]
  · rw [List.take_of_length_le (by omega), List.take_of_length_le (by rw [rfsV_length]; omega)]
theorem rfsV_drop (y : List RF) (k : Nat) : rfsV (y.drop k) = (rfsV y).drop (k * 10) := by
  by_cases h : k ≤ y.length
  · have e2 : rfsV y = rfsV (y.take k) ++ rfsV (y.drop k) := by rw [← rfsV_append, List.take_append_drop]
    have hl : (rfsV (y.take k)).length = k * 10 := by rw [rfsV_length, List.length_take]; omega
    rw [e2, ← hl, List.drop_left]
  · rw [List.drop_eq_nil_of_le (by omega), List.drop_eq_nil_of_le (by rw [rfsV_length]; omega)]
    rfl
theorem rf_info : (Tryz.prog.info? 49).map (fun i => (i.zero, i.size, i.bytes)) = some (some (.agg #[.int .i64 0, .int .i64 0, .int .i64 0, .int .i64 0, .int .i64 0, .int .i64 0, .int .i64 0, .int .i64 0, .int .i64 0, .slice none 0 0]), 10, 96) := by kernel_rfl
theorem rf_size : (Tryz.prog.info? 49).map (·.size) = some 10 := by kernel_rfl

/-! ### a row of cells of a type -/
def RowAt (w : World) (A : Option Addr) (T : TypeId) (xs : List Value) : Prop := xs = [] ∨ ∃ g o cs, A = some ⟨g, o, none⟩ ∧ w.heap[g]? = some (.cells cs T (0, 0)) ∧ ∀ (j : Nat) v, xs[j]? = some v → cs[o + j]? = some v
theorem RowAt.nil (w : World) (A : Option Addr) (T : TypeId) : RowAt w A T [] := .inl rfl
theorem RowAt.seen {w : World} {A : Option Addr} {T : TypeId} {xs : List Value} (h : RowAt w A T xs) : Seen w A xs := by
  rcases h with h | ⟨g, o, cs, hA, hh, hc⟩
  · exact .inl h
  · exact .inr ⟨g, o, hA, fun j v hv => by rw [row_cell hh]; exact hc j v hv⟩
theorem RowAt.turned {p : Nat → Prop} {w w' : World} {A : Option Addr} {T : TypeId} {xs : List Value} (h : RowAt w A T xs) (ht : Turned p w w') (hp : ∀ k cs, w.heap[k]? = some (.cells cs T (0, 0)) → ¬ p k) : RowAt w' A T xs := by
  rcases h with h | ⟨g, o, cs, hA, hh, hc⟩
  · exact .inl h
  · exact .inr ⟨g, o, cs, hA, ht.heap hh (hp g cs hh), hc⟩
theorem RowAt.below {w w' : World} {A : Option Addr} {T : TypeId} {xs : List Value} (h : RowAt w A T xs) (hb : Below w.heap.size w w') : RowAt w' A T xs := h.turned (p := fun _ => False) (.of_below hb) fun _ _ _ e => e
theorem RowAt.kept {B : Nat} {w w' : World} {A : Option Addr} {T : TypeId} {xs : List Value} (h : RowAt w A T xs) (hk : KeptS B w w') (hT : ¬ TouchS T) : RowAt w' A T xs := by
  rcases h with h | ⟨g, o, cs, hA, hh, hc⟩
  · exact .inl h
  · exact .inr ⟨g, o, cs, hA, hk.heap hh hT, hc⟩
theorem RowAt.of_own {w : World} {base size n c : Nat} {T : TypeId} {A : Option Addr} {xs : List Value} (h : w.ownsRow base T size (.slice A n c) n xs) : RowAt w A T xs := by
  rcases h.2 with ⟨hv, hn⟩ | ⟨g, cap, cur, hv, _, hh, _, _, _, hx⟩
  · left
    have h1 := h.1
    have : n = 0 := by injection hv
    subst this
    exact List.length_eq_zero_iff.1 (by omega)
  · injection hv with hv
    refine .inr ⟨g, 0, cur, hv, hh, fun j v hjv => ?_⟩
    rw [Nat.zero_add]
    have := World.ownsRow.cells h (g := g) (by rw [hv]; rfl) j v hjv
    rw [Addr.add_lit, Nat.zero_add, row_cell hh] at this
    exact this
/-- the queue of a flow of the document's, kept -/
theorem QAt.items {Q : Nat → Prop} {w w' : World} {B : Nat} {v : Value} {l : List Itm} (h : QAt w B v l) (hk : KeepI Q w w') (hq : ∀ g, v.ownBlock = some g → ¬ Q g) : QAt w' B v l := by
  rcases h with h | ⟨g, o, cap, cur, rfl, hB, hh, hr⟩
  · exact .inl h
  · exact .inr ⟨g, o, cap, cur, rfl, hB, hk g cur (hq g rfl) hh, hr⟩
/-- the slice at A reads as y; none of its items' rows lies in Q -/
def RefAt (w : World) (Q : Nat → Prop) (A : Option Addr) (y : List RF) : Prop := RowAt w A 49 (rfsV y) ∧ ∀ r ∈ y, QAt w 0 (rfQ r) r.f.q ∧ ∀ g, (rfQ r).ownBlock = some g → ¬ Q g
theorem RefAt.below {w w' : World} {Q : Nat → Prop} {A : Option Addr} {y : List RF} (h : RefAt w Q A y) (hb : Below w.heap.size w w') : RefAt w' Q A y := ⟨h.1.below hb, fun r hr => ⟨(h.2 r hr).1.below hb, (h.2 r hr).2⟩⟩
theorem RefAt.kept {B : Nat} {w w' : World} {Q : Nat → Prop} {A : Option Addr} {y : List RF} (h : RefAt w Q A y) (hk : KeptS B w w') (hi : KeepI Q w w') : RefAt w' Q A y := ⟨h.1.kept hk (by unfold TouchS; decide), fun r hr => ⟨(h.2 r hr).1.items hi (h.2 r hr).2, (h.2 r hr).2⟩⟩
/-- one of the flows -/
theorem Seen.rf {w : World} {A : Option Addr} {y : List RF} (h : Seen w A (rfsV y)) {i : Nat} {r : RF} (hi : y[i]? = some r) : ∃ g o, A = some ⟨g, o, none⟩ ∧ ∀ j v, (rfV r)[j]? = some v → w.cell? ⟨g, o + i * 10 + j, none⟩ = some v := by
  have h0 : (rfsV y)[i * 10 + 0]? = (rfV r)[0]? := rfsV_at hi (by omega)
  rcases h with h | ⟨g, o, hA, hc⟩
  · rw [h] at h0; cases h0
  · refine ⟨g, o, hA, fun j v hv => ?_⟩
    have hj : j < 10 := (List.getElem?_eq_some_iff.1 hv).1
    have := hc (i * 10 + j) v (by rw [rfsV_at hi hj]; exact hv)
    rwa [show o + (i * 10 + j) = o + i * 10 + j by omega] at this
end Go.Proofs.YtbfjakchgmdldaaGreat
