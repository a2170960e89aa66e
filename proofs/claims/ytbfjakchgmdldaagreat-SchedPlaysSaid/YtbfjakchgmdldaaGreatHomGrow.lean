/-
  Contract of (*heap.Heap).grow. Conditions: a heap in memory.
-/
import Derived.Test.YtbfjakchgmdldaaGreatHomSet
import Derived.WalkSpells
import Derived.Carry
namespace Go.Proofs.YtbfjakchgmdldaaGreat
open Go.ChangeShapes Go.WideShapes Go.ChangeAt Go.RowKit Go.Maps Go.Sort
set_option linter.unusedVariables false

section
variable {P : Program} {w : World}
/-- an append of elements of several cells; which block it may have written -/
theorem wpList_app3 {ops : Array Oper} {rest : List Oper} {o : Oper} {a : Act} {Q : Exit → Act → World → Prop} (hgd : o.guard = none) (s x : Operand) (t : TypeId)
    (ho : o.op = .call { callee := .builtin .append, args := #[s, x], argTypes := #[t, t] })
    (e : TypeId) (z : Value) (size bytes : Nat) (ht : P.underlying t = some (.slice e)) (hinfo : (P.info? e).map (fun i => (i.zero, i.size, i.bytes)) = some (some z, size, bytes)) (hz1 : z.cells.size = size) (hsz : 0 < size)
    (base : Nat) (A : Option Addr) (n c : Nat) (xs : List Value) (hs : a.eval s = .slice A n c) (hown : w.ownsRow base e size (.slice A n c) n xs)
    (g2 o2 m c2 : Nat) (news : List Value) (hx : a.eval x = .slice (some ⟨g2, o2, none⟩) m c2) (hm : news.length = m * size) (hsee : Seen w (some ⟨g2, o2, none⟩) news) (h1 : ∀ u ∈ news, u.oneCell' = true)
    (h63 : n + m ≤ maxLen) (hbytes : (n + m) * bytes ≤ 140737488355328) (hbase : base ≤ w.heap.size)
    (h : ∀ A' c' w', w'.ownsRow base e size (.slice A' (n + m) c') (n + m) (xs ++ news) → w.grownBy w' (Value.slice A n c).ownBlock → (∀ k, (Value.slice A' (n + m) c').ownBlock = some k → (Value.slice A n c).ownBlock = some k ∨ k = w.heap.size) →
      wpList P ops Q rest (a.put o.dst (.slice A' (n + m) c')) w') : wpList P ops Q (o :: rest) a w :=
  wpList_plain hgd fun K hK => by
    obtain ⟨i, hi, hz, hss, hb⟩ := info_parts hinfo
    have hcells : ∀ (j : Nat) u, news[j]? = some u → w.cell? ((⟨g2, o2, none⟩ : Addr).add j) = some u := by
      intro j u hu
      rcases hsee with rfl | ⟨g, o, hA, hc⟩
      · simp at hu
      · injection hA with hA
        rw [hA, Addr.add_lit]
        exact hc j u hu
    obtain ⟨v', w', hrun, hown', hg, _, hblk⟩ := run_append_own_at (P := P) w base t o.type e i z size bytes ht hi hz hss hb hz1 hsz _ n xs hown ⟨g2, o2, none⟩ m c2 news hm hcells h1 h63 hbytes hbase
    obtain ⟨A', c', rfl⟩ := own_formM hown'
    unfold Oper.wp execOp
    simp only [ho, resolve, invoke, builtin, Sem.run_bind, Sem.run_pure, Result.andThen_ok, List.map_toArray, List.map_cons, List.map_nil, hs, hx, hrun]
    refine hK _ _ (h A' c' w' hown' hg fun k hk => ?_)
    rcases hblk with h | h
    · exact .inl (by rw [← h]; exact hk)
    · rw [h] at hk
      injection hk with hk
      exact .inr hk.symm
end
/-- what grow hands back: a place more, at the end -/
def GrowRet (B : Nat) (h : Home) (q m : Option Nat) (t : List Ent) (ks : List Int) (f : Int → Int) (w : World) (en : Ending) (w' : World) : Prop :=
  en = .returned (.int .i64 (t.length : Int)) ∧ ∃ (q' : Option Nat) (m' : Nat), IsH w' B h q' (some m') (t ++ [(0, 0)]) ks f ∧ Turned (Foot h q m) w w' ∧ ∀ k, Foot h q' (some m') k → Foot h q m k ∨ w.heap.size ≤ k

/-- the tree with a place more, its slice written into the struct -/
theorem IsH.longer {w w1 w4 : World} {B : Nat} {h : Home} {m : Option Nat} {t : List Ent} {ks : List Int} {f : Int → Int} {A A' : Option Addr} {c c' : Nat} {q0 : Option Nat} {m0 : Option Nat}
    (hB : B ≤ h.b) (hrow : w1.heap[h.b]? = some (.cells (h.K (.slice A t.length c) (.map m)) h.T (0, 0))) (hown : w1.ownsRow B 88 2 (.slice A t.length c) t.length (entsV t)) (hmap : MapAt w1 B m ks f)
    (ht : Turned (Foot h q0 m0) w w1) (hq : ∀ k, (Value.slice A t.length c).ownBlock = some k → q0 = some k) (hm0 : ∀ k, m = some k → m0 = some k ∨ w.heap.size ≤ k)
    (hown4 : w4.ownsRow B 88 2 (.slice A' (t.length + 1) c') (t.length + 1) (entsV t ++ entsV [(0, 0)])) (hg4 : w1.grownBy w4 (Value.slice A t.length c).ownBlock) (hblk : ∀ k, (Value.slice A' (t.length + 1) c').ownBlock = some k → (Value.slice A t.length c).ownBlock = some k ∨ k = w1.heap.size) :
    IsH (w4.setCell ⟨h.b, h.o, none⟩ (.slice A' (t.length + 1) c')) B h (Value.slice A' (t.length + 1) c').ownBlock m (t ++ [(0, 0)]) ks f ∧ Turned (Foot h q0 m0) w (w4.setCell ⟨h.b, h.o, none⟩ (.slice A' (t.length + 1) c')) ∧ ∀ k, Foot h (Value.slice A' (t.length + 1) c').ownBlock m k → Foot h q0 m0 k ∨ w.heap.size ≤ k := by
  have H1 : IsH w1 B h (Value.slice A t.length c).ownBlock m t ks f := ⟨hB, ⟨A, c, hrow, hown, rfl⟩, hmap⟩
  obtain ⟨ap1, ap2, ap3⟩ := H1.apart
  have tg : Turned (fun k => (Value.slice A t.length c).ownBlock = some k) w1 w4 := Turned.of_grown hg4 fun k hk => hk
  have hrow4 := tg.heap hrow (fun e => ap1 h.b e rfl)
  have hmap4 := hmap.turned tg fun k hk e => ap3 k k e hk rfl
  have hlt1 : h.b < w1.heap.size := (Array.getElem?_eq_some_iff.1 hrow).1
  have ts : Turned (fun k => k = h.b) w4 (w4.setCell ⟨h.b, h.o, none⟩ (.slice A' (t.length + 1) c')) := (Turned.refl (fun k => k = h.b) w4).setCell (b := ⟨h.b, h.o, none⟩) (fun _ => rfl) _
  have hne : ∀ k, (Value.slice A' (t.length + 1) c').ownBlock = some k → k ≠ h.b := fun k hk => by
    rcases hblk k hk with e | e
    · exact ap1 k e
    · omega
  refine ⟨⟨hB, ⟨A', c', ?_, ?_, by cases A' <;> rfl⟩, hmap4.turned ts fun k hk e => ap2 k hk e⟩, ?_, fun k hk => ?_⟩
  · have := h.put0 hrow4 (.slice A' (t.length + 1) c')
    rw [List.length_append, List.length_singleton]
    exact this
  · rw [List.length_append, List.length_singleton, entsV_append]
    exact own_turnedM ts hown4 fun k hk e => hne k hk e
  · exact (ht.trans tg (fun _ e => e) (fun k _ e => .inr (.inl (hq k e)))).trans ts (fun _ e => e) (fun k _ e => .inl e)
  · have hs := ht.size
    rcases hk with rfl | hk | hk
    · exact .inl (.inl rfl)
    · rcases hblk k hk with e | e
      · exact .inl (.inr (.inl (hq k e)))
      · exact .inr (by omega)
    · rcases hm0 k hk with e | e
      · exact .inl (.inr (.inr e))
      · exact .inr e

set_option maxRecDepth 100000 in
set_option maxHeartbeats 2000000 in
theorem grow_some (B : Nat) (h : Home) (b : Nat) (q : Option Nat) (t : List Ent) (ks : List Int) (f : Int → Int) (w : World) (H : IsH w B h q (some b) t ks f) (hn : t.length ≤ 100000) (hB : B ≤ w.heap.size) :
    Calls Tryz.prog 68 #[.pointer (some ⟨h.b, h.o, none⟩)] w (GrowRet B h q (some b) t ks f w) := by
  have HH := Lib.hid H
  obtain ⟨hb0, ⟨A, c, h1, h2, h3⟩, h4⟩ := H
  have a0 : w.cell? ⟨h.b, h.o, none⟩ = some (.slice A t.length c) := h.cell0 h1
  have a1 : w.cell? ⟨h.b, h.o + 1, none⟩ = some (.map (some b)) := h.cell1 h1
  obtain ⟨W1, hW1⟩ : ∃ W1, w.alloc (.cells #[.int .i64 0, .int .i64 0] 88) = W1 := ⟨_, rfl⟩
  have hb1 : Below w.heap.size w W1 := by rw [← hW1]; exact (Below.refl _ _).alloc (Nat.le_refl _) _
  have hsee : Seen W1 (some ⟨w.heap.size, 0, none⟩) (entsV [(0, 0)]) := by rw [← hW1]; exact Seen.of_cells (heap_alloc_new w _)
  have hrow1 : W1.heap[h.b]? = some (.cells (h.K (.slice A t.length c) (.map (some b))) h.T (0, 0)) := by rw [hb1.block h.b (Array.getElem?_eq_some_iff.1 h1).1]; exact h1
  have Hrow1 := Lib.hid hrow1; have Hown1 := Lib.hid (own_belowM h2 hb1); have Hmap1 := Lib.hid (h4.turned (p := fun _ => False) (.of_below hb1) fun _ _ e => e); have Hsee := Lib.hid hsee; have Hb1 := Lib.hid hb1; have H3 := Lib.hid h3; have Hb0 := Lib.hid hb0
  have hlt : h.b < W1.heap.size := (Array.getElem?_eq_some_iff.1 hrow1).1
  have hap : (Value.slice A t.length c).ownBlock ≠ some h.b := fun e => HH.out.apart.1 h.b (by rw [← h3]; exact e) rfl
  have Hap := Lib.hid hap
  have q25 : ∀ (w : World) (r : Option Nat), (binOp .eql 59 (.map r) (.map none)).run Tryz.prog w = .ok (.bool r.isNone) w := fun w r => run_eql_map_nil w _ _ _ r Tryz.underlying59
  clear h1 h2 h3 h4 hb1 hsee hrow1 hb0 hap
  go_enter Tryz.func68, Tryz.ntmps68
  go_wp2_with (at_builtin; refine wpList_app3 rfl (.tmp 16) (.tmp 18) _ rfl 88 _ 2 16 Tryz.underlying58 ent_info rfl (by omega) B A t.length c (entsV t) rfl Hown1.out w.heap.size 0 1 1 (entsV [(0, 0)]) rfl rfl Hsee.out (entsV_one _) (by unfold maxLen; omega) (by omega) (by have := Hb1.out.size; omega) ?_; intro A4 c4 w4 hown4 hg4 hbk4; have Hown4 := Lib.hid hown4; have Hg4 := Lib.hid hg4; have Hbk4 := Lib.hid hbk4; have hh4 : w4.heap[h.b]? = _ := (Turned.of_grown (p := fun k => (Value.slice A t.length c).ownBlock = some k) hg4 (fun k e => e)).heap Hrow1.out Hap.out; have e0 := h.cell0 hh4; have e1 := row_frozen hh4 h.o; change w4.cell? _ = some (.slice A t.length c) at e0; clear hown4 hg4 hbk4 hh4)
  go_ret
  unfold GrowRet
  have hL := IsH.longer (q0 := q) (m0 := some b) Hb0.out Hrow1.out Hown1.out Hmap1.out (Turned.of_below (p := Foot h q (some b)) Hb1.out) (fun k hk => by rw [← H3.out]; exact hk) (fun k hk => .inl hk) Hown4.out Hg4.out Hbk4.out
  exact ⟨rfl, _, b, hL.1, hL.2.1, hL.2.2⟩
set_option maxRecDepth 100000 in
set_option maxHeartbeats 2000000 in
theorem grow_none (B : Nat) (h : Home) (q : Option Nat) (t : List Ent) (ks : List Int) (f : Int → Int) (w : World) (H : IsH w B h q none t ks f) (hn : t.length ≤ 100000) (hB : B ≤ w.heap.size) :
    Calls Tryz.prog 68 #[.pointer (some ⟨h.b, h.o, none⟩)] w (GrowRet B h q none t ks f w) := by
  have HH := Lib.hid H
  obtain ⟨hb0, ⟨A, c, h1, h2, h3⟩, h4⟩ := H
  have a0 : w.cell? ⟨h.b, h.o, none⟩ = some (.slice A t.length c) := h.cell0 h1
  have a1 : w.cell? ⟨h.b, h.o + 1, none⟩ = some (.map none) := h.cell1 h1
  have a2 := row_frozen h1 (h.o + 1)
  have hks : ks = [] := by
    rcases h4 with ⟨_, e⟩ | ⟨_, e, _⟩
    · exact e
    · cases e
  subst hks
  obtain ⟨W0, hW0⟩ : ∃ W0, w.alloc (.map #[] 0) = W0 := ⟨_, rfl⟩
  have hb00 : Below w.heap.size w W0 := by rw [← hW0]; exact (Below.refl _ _).alloc (Nat.le_refl _) _
  have hz0 : W0.heap.size = w.heap.size + 1 := by rw [← hW0]; simp
  have hm00 : PlacesAt W0 w.heap.size [] f := by rw [← hW0]; exact PlacesAt.made w f
  have hr00 : W0.heap[h.b]? = some (.cells (h.K (.slice A t.length c) (.map none)) h.T (0, 0)) := by rw [hb00.block h.b (Array.getElem?_eq_some_iff.1 h1).1]; exact h1
  have a3 : W0.cell? ⟨h.b, h.o + 1, none⟩ = some (.map none) := h.cell1 hr00
  have a4 := row_frozen hr00 (h.o + 1)
  obtain ⟨W2, hW2⟩ : ∃ W2, W0.setCell ⟨h.b, h.o + 1, none⟩ (.map (some w.heap.size)) = W2 := ⟨_, rfl⟩
  have hr2 : W2.heap[h.b]? = some (.cells (h.K (.slice A t.length c) (.map (some w.heap.size))) h.T (0, 0)) := by rw [← hW2]; exact h.put1 hr00 _
  have ht2 : Turned (fun k => k = h.b) w W2 := by rw [← hW2]; exact (Turned.of_below (p := fun k => k = h.b) hb00).setCell (b := ⟨h.b, h.o + 1, none⟩) (fun _ => rfl) _
  have hz2 : W2.heap.size = w.heap.size + 1 := by rw [← hW2, ← hz0]; simp
  have hhw := (Array.getElem?_eq_some_iff.1 h1).1
  have hm2 : PlacesAt W2 w.heap.size [] f := by
    have tt : Turned (fun k => k = h.b) W0 W2 := by rw [← hW2]; exact (Turned.refl (fun k => k = h.b) W0).setCell (b := ⟨h.b, h.o + 1, none⟩) (fun _ => rfl) _
    exact hm00.turned tt (by omega)
  have a5 : W2.cell? ⟨h.b, h.o, none⟩ = some (.slice A t.length c) := h.cell0 hr2
  obtain ⟨W1, hW1⟩ : ∃ W1, W2.alloc (.cells #[.int .i64 0, .int .i64 0] 88) = W1 := ⟨_, rfl⟩
  have hbw : Below W2.heap.size W2 W1 := by rw [← hW1]; exact (Below.refl _ _).alloc (Nat.le_refl _) _
  have ht1 : Turned (fun k => k = h.b) w W1 := ht2.trans (.of_below (p := fun _ => False) hbw) (fun _ e => e) (fun _ _ e => e.elim)
  have hap0 : ∀ k, (Value.slice A t.length c).ownBlock = some k → k ≠ h.b := fun k e => HH.out.apart.1 k (by rw [← h3]; exact e)
  have hsee : Seen W1 (some ⟨W2.heap.size, 0, none⟩) (entsV [(0, 0)]) := by rw [← hW1]; exact Seen.of_cells (heap_alloc_new W2 _)
  have hrow1 : W1.heap[h.b]? = some (.cells (h.K (.slice A t.length c) (.map (some w.heap.size))) h.T (0, 0)) := by rw [hbw.block h.b (Array.getElem?_eq_some_iff.1 hr2).1]; exact hr2
  have a6 : W1.cell? ⟨h.b, h.o, none⟩ = some (.slice A t.length c) := h.cell0 hrow1
  have Hrow1 := Lib.hid hrow1; have Hown1 := Lib.hid (own_turnedM ht1 h2 fun k hk e => hap0 k hk e); have Hmap1 : Hid (MapAt W1 B (some w.heap.size) [] f) := Lib.hid (.inr ⟨w.heap.size, rfl, hB, hm2.turned (Turned.of_below (p := fun _ => False) hbw) id⟩)
  have Hsee := Lib.hid hsee; have Hb1 := Lib.hid ht1; have H3 := Lib.hid h3; have Hb0 := Lib.hid hb0
  have hlt : h.b < W1.heap.size := (Array.getElem?_eq_some_iff.1 hrow1).1
  have hap : (Value.slice A t.length c).ownBlock ≠ some h.b := fun e => HH.out.apart.1 h.b (by rw [← h3]; exact e) rfl
  have Hap := Lib.hid hap
  have q25 : ∀ (w : World) (r : Option Nat), (binOp .eql 59 (.map r) (.map none)).run Tryz.prog w = .ok (.bool r.isNone) w := fun w r => run_eql_map_nil w _ _ _ r Tryz.underlying59
  clear h1 h2 h3 h4 hsee hrow1 hb0 hap hap0 ht1 hbw hm2 hz2 ht2 hr2 hr00 hm00 hb00 hhw hz0
  have hmm := @run_makeMap Tryz.prog
  go_enter Tryz.func68, Tryz.ntmps68
  go_wp2_with (at_builtin; refine wpList_app3 rfl (.tmp 16) (.tmp 18) _ rfl 88 _ 2 16 Tryz.underlying58 ent_info rfl (by omega) B A t.length c (entsV t) rfl Hown1.out W2.heap.size 0 1 1 (entsV [(0, 0)]) rfl rfl Hsee.out (entsV_one _) (by unfold maxLen; omega) (by omega) (by have := Hb1.out.size; omega) ?_; intro A4 c4 w4 hown4 hg4 hbk4; have Hown4 := Lib.hid hown4; have Hg4 := Lib.hid hg4; have Hbk4 := Lib.hid hbk4; have hh4 : w4.heap[h.b]? = _ := (Turned.of_grown (p := fun k => (Value.slice A t.length c).ownBlock = some k) hg4 (fun k e => e)).heap Hrow1.out Hap.out; have e0 := h.cell0 hh4; have e1 := row_frozen hh4 h.o; change w4.cell? _ = some (.slice A t.length c) at e0; clear hown4 hg4 hbk4 hh4)
  go_ret
  unfold GrowRet
  have hL := IsH.longer (q0 := q) (m0 := none) Hb0.out Hrow1.out Hown1.out Hmap1.out (Hb1.out.mono (q := Foot h q none) fun k _ e => .inl e) (fun k hk => by rw [← H3.out]; exact hk) (fun k hk => .inr (by injection hk with hk; omega)) Hown4.out Hg4.out Hbk4.out
  exact ⟨rfl, _, w.heap.size, hL.1, hL.2.1, hL.2.2⟩
theorem hgrow_any (B : Nat) (h : Home) (q m : Option Nat) (t : List Ent) (ks : List Int) (f : Int → Int) (w : World) (H : IsH w B h q m t ks f) (hn : t.length ≤ 100000) (hB : B ≤ w.heap.size) :
    Calls Tryz.prog 68 #[.pointer (some ⟨h.b, h.o, none⟩)] w (GrowRet B h q m t ks f w) := by
  cases m with
  | none => exact grow_none B h q t ks f w H hn hB
  | some b => exact grow_some B h b q t ks f w H hn hB
end Go.Proofs.YtbfjakchgmdldaaGreat
