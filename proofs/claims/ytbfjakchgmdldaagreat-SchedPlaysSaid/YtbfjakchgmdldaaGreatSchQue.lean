/-
  A queue of items in memory (QAt): a slice that may begin anywhere in its row; an append to it, a cut at its front, a load of an item. Of the program: nothing but an item's type. Conditions: what each names.
-/
import Derived.Test.YtbfjakchgmdldaaGreatSchMath
import Derived.Test.YtbfjakchgmdldaaGreatHomMem
import Derived.Test.YtbfjakchgmdldaaGreatStep
import Derived.Laws.CopyRow
namespace Go.Proofs.YtbfjakchgmdldaaGreat
open Go.ChangeShapes Go.WideShapes Go.ChangeAt Go.RowKit
set_option linter.unusedVariables false

/-! ### items as cells -/
def itV (i : Itm) : List Value := [.int .i64 i.na, .int .i64 i.de, .int .i64 i.rh]
def itsV (l : List Itm) : List Value := l.flatMap itV
theorem itsV_append (x y : List Itm) : itsV (x ++ y) = itsV x ++ itsV y := by simp [itsV]
theorem itsV_length (x : List Itm) : (itsV x).length = x.length * 3 := by
  induction x with
  | nil => rfl
  | cons p r ih =>
    have : (itsV (p :: r)).length = 3 + (itsV r).length := by simp [itsV, itV]; omega
    rw [this, ih, List.length_cons]; omega
theorem itsV_one (x : List Itm) : ∀ u ∈ itsV x, u.oneCell' = true := by
  intro u hu
  simp only [itsV, List.mem_flatMap, itV, List.mem_cons, List.not_mem_nil, or_false] at hu
  obtain ⟨p, _, rfl | rfl | rfl⟩ := hu <;> rfl
theorem item_info : (Tryz.prog.info? 30).map (fun i => (i.zero, i.size, i.bytes)) = some (some (.agg #[.int .i64 0, .int .i64 0, .int .i64 0]), 3, 24) := by kernel_rfl

/-! ### a queue -/
/-- the slice v reads as the items l; its row, from where v begins on, is its own -/
def QAt (w : World) (B : Nat) (v : Value) (l : List Itm) : Prop :=
  (v = .slice none 0 0 ∧ l = []) ∨ ∃ g o cap cur, v = .slice (some ⟨g, o, none⟩) l.length cap ∧ B ≤ g ∧ w.heap[g]? = some (.cells cur 30 (0, 0)) ∧ l.length ≤ cap ∧ cap ≤ maxLen ∧ o + cap * 3 ≤ cur.size ∧ ∀ j u, (itsV l)[j]? = some u → cur[o + j]? = some u
theorem QAt.nil (w : World) (B : Nat) : QAt w B (.slice none 0 0) [] := .inl ⟨rfl, rfl⟩
theorem QAt.form {w : World} {B : Nat} {v : Value} {l : List Itm} (h : QAt w B v l) : ∃ A c, v = .slice A l.length c := by
  rcases h with ⟨rfl, rfl⟩ | ⟨g, o, cap, cur, rfl, _⟩
  · exact ⟨_, _, rfl⟩
  · exact ⟨_, _, rfl⟩
theorem QAt.turned {p : Nat → Prop} {w w' : World} {B : Nat} {v : Value} {l : List Itm} (h : QAt w B v l) (ht : Turned p w w') (hp : ∀ k, v.ownBlock = some k → ¬ p k) : QAt w' B v l := by
  rcases h with h | ⟨g, o, cap, cur, rfl, hB, hh, hr⟩
  · exact .inl h
  · exact .inr ⟨g, o, cap, cur, rfl, hB, ht.heap hh (hp g rfl), hr⟩
theorem QAt.below {w w' : World} {B : Nat} {v : Value} {l : List Itm} (h : QAt w B v l) (hb : Below w.heap.size w w') : QAt w' B v l := h.turned (p := fun _ => False) (.of_below hb) fun _ _ e => e
theorem QAt.block {w : World} {B : Nat} {v : Value} {l : List Itm} (h : QAt w B v l) {k : Nat} (hk : v.ownBlock = some k) : B ≤ k ∧ ∃ cs, w.heap[k]? = some (.cells cs 30 (0, 0)) := by
  rcases h with ⟨rfl, _⟩ | ⟨g, o, cap, cur, rfl, hB, hh, _⟩
  · cases hk
  · injection hk with hk
    have hk : g = k := hk
    subst hk
    exact ⟨hB, _, hh⟩
/-- a queue that isn't empty -/
theorem QAt.some_ {w : World} {B : Nat} {v : Value} {i : Itm} {r : List Itm} (h : QAt w B v (i :: r)) :
    ∃ g o cap, v = .slice (some ⟨g, o, none⟩) (r.length + 1) (cap + 1) ∧ r.length ≤ cap ∧ cap + 1 ≤ maxLen ∧ g < w.heap.size ∧ w.cell? ⟨g, o, none⟩ = some (.int .i64 i.na) ∧ w.cell? ⟨g, o + 1, none⟩ = some (.int .i64 i.de) ∧ w.cell? ⟨g, o + 2, none⟩ = some (.int .i64 i.rh) ∧
      QAt w B (if cap = 0 then .slice (some ⟨g, o, none⟩) r.length cap else .slice (some ⟨g, o + 3, none⟩) r.length cap) r := by
  rcases h with ⟨_, h⟩ | ⟨g, o, cap, cur, rfl, hB, hh, h1, h2, h3, h4⟩
  · cases h
  · obtain ⟨cap, rfl⟩ : ∃ c, cap = c + 1 := ⟨cap - 1, by simp at h1; omega⟩
    have hc : ∀ j u, (itV i ++ itsV r)[j]? = some u → w.cell? ⟨g, o + j, none⟩ = some u := fun j u hu => by rw [row_cell hh]; exact h4 j u hu
    refine ⟨g, o, cap, rfl, by simp at h1; omega, h2, (Array.getElem?_eq_some_iff.1 hh).1, hc 0 _ rfl, hc 1 _ rfl, hc 2 _ rfl, ?_⟩
    simp only [List.length_cons] at h1
    by_cases hz : cap = 0
    · subst hz
      rw [if_pos rfl]
      have : r = [] := List.length_eq_zero_iff.1 (by omega)
      subst this
      exact .inr ⟨g, o, 0, cur, rfl, hB, hh, by simp, by omega, by omega, fun j u hu => by simp [itsV] at hu⟩
    · rw [if_neg hz]
      refine .inr ⟨g, o + 3, cap, cur, rfl, hB, hh, by omega, by omega, by omega, fun j u hu => ?_⟩
      have := h4 (j + 3) u (by
        show (itV i ++ itsV r)[j + 3]? = _
        rw [List.getElem?_append_right (by simp [itV])]
        simpa [itV] using hu)
      rwa [show o + 3 + j = o + (j + 3) by omega]

theorem own_is {g o n c k : Nat} (h : (Value.slice (some ⟨g, o, none⟩) n c).ownBlock = some k) : k = g := by
  injection h with h
  exact h.symm
section
variable {P : Program} (w : World)
theorem run_append_room_at (t ty e : TypeId) (i : TypeInfo) (ht : P.underlying t = some (.slice e)) (hi : P.info? e = some i)
    (g o sLen sCap : Nat) (cur : Array Value) (hg : w.heap[g]? = some (.cells cur e (0, 0)))
    (a : Addr) (m c : Nat) (news : List Value) (hl : news.length = m * i.size) (hnews : ∀ j u, news[j]? = some u → w.cell? (a.add j) = some u) (h1 : ∀ u ∈ news, u.oneCell' = true)
    (hroom : sLen + m ≤ sCap) (hfit : o + sLen * i.size + news.length ≤ cur.size) :
    (Builtin.append_ #[t, t] ty #[.slice (some ⟨g, o, none⟩) sLen sCap, .slice (some a) m c]).run P w =
      .ok (.slice (some ⟨g, o, none⟩) (sLen + m) sCap) (w.setRow g (cur.toList.take (o + sLen * i.size) ++ news ++ cur.toList.drop (o + sLen * i.size + news.length)).toArray) := by
  have hf := run_firstCells_some (P := P) w i.size m a m c news hl hnews
  have hst := run_storeCells_at P g (o + sLen * i.size) e news 0 cur w hg (by simpa using hfit) h1
  simp only [Nat.add_zero] at hst
  simp [Builtin.append_, run_underlying ht, sizeOf, typeInfo, hi, Builtin.lenOf, hroom, hf, Addr.add_lit, hst]
end
/-- one item laid behind a queue -/
theorem run_appQ {w : World} {B : Nat} {v : Value} {l : List Itm} (h : QAt w B v l) (hB : B ≤ w.heap.size) (it : Itm) (hl : l.length ≤ 1024) {g2 : Nat} (hg2 : w.heap[g2]? = some (.cells #[.int .i64 it.na, .int .i64 it.de, .int .i64 it.rh] 30 (0, 0))) :
    ∃ A' c' w', (Builtin.append_ #[47, 47] 47 #[v, .slice (some ⟨g2, 0, none⟩) 1 1]).run Tryz.prog w = .ok (.slice A' (l.length + 1) c') w' ∧ QAt w' B (.slice A' (l.length + 1) c') (l ++ [it]) ∧ w.grownBy w' v.ownBlock ∧
      (∀ k, (Value.slice A' (l.length + 1) c').ownBlock = some k → v.ownBlock = some k ∨ k = w.heap.size) := by
  obtain ⟨i, hi, hz, hs, hb⟩ := info_parts item_info
  have ht : Tryz.prog.underlying 47 = some (.slice 30) := Tryz.underlying47
  have hnews : ∀ j u, (itV it)[j]? = some u → w.cell? ((⟨g2, 0, none⟩ : Addr).add j) = some u := fun j u hu => by
    rw [Addr.add_lit, row_cell hg2]
    match j, hu with
    | 0, hu => exact hu
    | 1, hu => exact hu
    | 2, hu => exact hu
  have hlen3 : (l ++ [it]).length = l.length + 1 := by simp
  have grown : ∀ c0 : Nat, c0 < l.length + 1 → ∀ z : Array Value, z.size = 3 →
      QAt (w.drew.alloc (.cells ((itsV l).toArray ++ (itV it).toArray ++ Builtin.zeroCells z (grownCap w (l.length + 1) c0 30 - (l.length + 1))) 30)) B (.slice (some ⟨w.heap.size, 0, none⟩) (l.length + 1) (grownCap w (l.length + 1) c0 30)) (l ++ [it]) := by
    intro c0 hc0 z hz3
    have hge := grownCap_ge w (l.length + 1) c0 30
    have hcm := grownCap_le_maxLen w (l.length + 1) c0 30 (by unfold maxLen; omega)
    obtain ⟨C, hC⟩ : ∃ C, grownCap w (l.length + 1) c0 30 = C := ⟨_, rfl⟩
    rw [hC] at hge hcm ⊢
    have hsz : ((itsV l).toArray ++ (itV it).toArray ++ Builtin.zeroCells z (C - (l.length + 1))).size = C * 3 := by
      simp only [Array.size_append, List.size_toArray, size_zeroCells, itsV_length, hz3]
      simp [itV]
      omega
    refine .inr ⟨w.heap.size, 0, C, _, by rw [hlen3], hB, heap_alloc_new w.drew _, by rw [hlen3]; exact hge, hcm, by rw [hsz]; omega, fun j u hu => ?_⟩
    rw [itsV_append, show itsV [it] = itV it by simp [itsV]] at hu
    have hj := (List.getElem?_eq_some_iff.1 hu).1
    rw [Nat.zero_add, Array.getElem?_append_left (by simp at hj ⊢; omega)]
    have e : (itsV l).toArray ++ (itV it).toArray = (itsV l ++ itV it).toArray := by simp
    rw [e, List.getElem?_toArray]
    exact hu
  rcases h with ⟨rfl, rfl⟩ | ⟨g, o, cap, cur, rfl, hBg, hh, h1, h2, h3, h4⟩
  · have hr := run_append_nil (P := Tryz.prog) w 47 47 30 i _ ht hi hz ⟨g2, 0, none⟩ 1 1 (itV it) (by rw [hs]; rfl) hnews (by omega) (by omega) (by rw [hb]; omega)
    refine ⟨_, _, _, hr, ?_, ⟨rfl, rfl, rfl, by simp, fun k hk _ => Below.heap_alloc w.drew _ k hk⟩, fun k hk => .inr (own_is hk)⟩
    have := grown 0 (by simp) _ (show (Value.agg #[.int .i64 0, .int .i64 0, .int .i64 0]).cells.size = 3 from rfl)
    simpa [itsV] using this
  · by_cases hroom : l.length + 1 ≤ cap
    · have hr := run_append_room_at (P := Tryz.prog) w 47 47 30 i ht hi g o l.length cap cur hh ⟨g2, 0, none⟩ 1 1 (itV it) (by rw [hs]; rfl) hnews (by intro u hu; simp [itV] at hu; rcases hu with rfl | rfl | rfl <;> rfl) hroom (by rw [hs]; simp [itV]; omega)
      rw [hs] at hr
      refine ⟨_, _, _, hr, .inr ⟨g, o, cap, _, by rw [hlen3], hBg, setRow_heap w g cur _ _ _ hh, by rw [hlen3]; exact hroom, h2, ?_, fun j u hu => ?_⟩, ⟨rfl, rfl, rfl, by simp, fun k _ hk => setRow_other w g k _ (fun e => hk (by simp [Value.ownBlock, e]))⟩, fun k hk => .inl hk⟩
      · simp [itV]
        omega
      · rw [itsV_append, show itsV [it] = itV it by simp [itsV]] at hu
        have hj := (List.getElem?_eq_some_iff.1 hu).1
        have hi3 : (itV it).length = 3 := rfl
        rw [List.length_append, itsV_length, hi3] at hj
        have hcl : cur.toList.length = cur.size := Array.length_toList
        have htl : (cur.toList.take (o + l.length * 3)).length = o + l.length * 3 := by rw [List.length_take]; omega
        rw [List.getElem?_toArray, List.append_assoc]
        by_cases hjl : j < l.length * 3
        · rw [List.getElem?_append_left (by rw [htl]; omega), List.getElem?_take, if_pos (by omega)]
          rw [List.getElem?_append_left (by rw [itsV_length]; exact hjl)] at hu
          simpa using h4 j u hu
        · rw [List.getElem?_append_right (by rw [htl]; omega), htl, List.getElem?_append_left (by rw [hi3]; omega)]
          rw [List.getElem?_append_right (by rw [itsV_length]; omega), itsV_length] at hu
          rw [show o + j - (o + l.length * 3) = j - l.length * 3 by omega]
          exact hu
    · have holds : ∀ j u, (itsV l)[j]? = some u → w.cell? ((⟨g, o, none⟩ : Addr).add j) = some u := fun j u hu => by
        rw [Addr.add_lit, row_cell hh]
        exact h4 j u hu
      have hr := run_append_grow (P := Tryz.prog) w 47 47 30 i _ ht hi hz ⟨g, o, none⟩ l.length cap (itsV l) (by rw [hs]; exact itsV_length l) holds ⟨g2, 0, none⟩ 1 1 (itV it) (by rw [hs]; rfl) hnews (by omega) (by omega) (by rw [hb]; exact growslice_fits (by omega) (by omega))
      refine ⟨_, _, _, hr, grown cap (by omega) _ rfl, ⟨rfl, rfl, rfl, by simp, fun k hk _ => Below.heap_alloc w.drew _ k hk⟩, fun k hk => .inr (own_is hk)⟩

/-! ### at an operation -/
section
variable {w : World} {ops : Array Oper} {o : Oper} {a : Act}
theorem step_appQ {K : Act → World → Prop} {Q : Exit → Act → World → Prop} {E : Prop} (hgd : o.guard = none) (s x : Operand) (hty : o.type = 47)
    (ho : o.op = .call { callee := .builtin .append, args := #[s, x], argTypes := #[47, 47] })
    (B : Nat) (v : Value) (l : List Itm) (n : Nat) (hn : l.length = n) (it : Itm) (g2 : Nat) (hs : a.eval s = v) (h : QAt w B v l) (hB : B ≤ w.heap.size) (hl : n ≤ 1024) (hx : a.eval x = .slice (some ⟨g2, 0, none⟩) 1 1)
    (hg2 : w.heap[g2]? = some (.cells #[.int .i64 it.na, .int .i64 it.de, .int .i64 it.rh] 30 (0, 0)))
    (hK : ∀ A' c' w', QAt w' B (.slice A' (n + 1) c') (l ++ [it]) → w.grownBy w' v.ownBlock → (∀ k, (Value.slice A' (n + 1) c').ownBlock = some k → v.ownBlock = some k ∨ k = w.heap.size) → K (a.put o.dst (.slice A' (n + 1) c')) w') :
    if Region.wanted o (yielded ops a.tmps) = true then Oper.wp Tryz.prog o a w K Q else E := by
  have hw : Region.wanted o (yielded ops a.tmps) = true := by simp [Region.wanted, hgd]
  rw [if_pos hw]
  subst hn
  obtain ⟨A', c', w', hrun, h2, h3, h4⟩ := run_appQ h hB it hl hg2
  unfold Oper.wp execOp
  simp only [ho, hty, resolve, invoke, builtin, Sem.run_bind, Sem.run_pure, Result.andThen_ok, List.map_toArray, List.map_cons, List.map_nil, hs, hx, hrun]
  exact hK A' c' w' h2 h3 h4
end

/-! ### a load of an item, under a name -/
theorem item_size : (Tryz.prog.info? 30).map (·.size) = some 3 := by kernel_rfl
def ldItm (p : Value) : Sem Value := Instr.loadAt 30 p
theorem ldItm_eq (p : Value) : Instr.loadAt 30 p = ldItm p := rfl
theorem ldItm_run {w : World} {g o : Nat} {i : Itm} (h0 : w.cell? ⟨g, o, none⟩ = some (.int .i64 i.na)) (h1 : w.cell? ⟨g, o + 1, none⟩ = some (.int .i64 i.de)) (h2 : w.cell? ⟨g, o + 2, none⟩ = some (.int .i64 i.rh)) :
    (ldItm (.pointer (some ⟨g, o, none⟩))).run Tryz.prog w = .ok (.agg #[.int .i64 i.na, .int .i64 i.de, .int .i64 i.rh]) w := by
  have hr : w.rangeAt g o [.int .i64 i.na, .int .i64 i.de, .int .i64 i.rh] := fun j v hv => by
    match j, hv with
    | 0, hv => simp at hv; subst hv; exact h0
    | 1, hv => simp at hv; subst hv; exact h1
    | 2, hv => simp at hv; subst hv; exact h2
  exact run_loadAt_mid w g o 30 [.int .i64 i.na, .int .i64 i.de, .int .i64 i.rh] _ hr Tryz.underlying30 rfl item_size
end Go.Proofs.YtbfjakchgmdldaaGreat
