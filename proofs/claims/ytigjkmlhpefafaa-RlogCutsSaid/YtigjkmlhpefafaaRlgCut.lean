/-
  Contracts of slices.Clone at entries and of (*rlog.Log).Cut. Conditions: a log in memory.
-/
import Derived.Test.YtigjkmlhpefafaaRlgMat
import Derived.Deep.RegionWith
namespace Go.Proofs.Ytigjkmlhpefafaa
open Go.ChangeShapes Go.WideShapes Go.ChangeAt Go.RowKit
set_option linter.unusedVariables false

section
variable {P : Program} {w : World}
/-- an append of elements of several cells -/
theorem wpList_appm {ops : Array Oper} {rest : List Oper} {o : Oper} {a : Act} {Q : Exit → Act → World → Prop} (hgd : o.guard = none) (s x : Operand) (t : TypeId)
    (ho : o.op = .call { callee := .builtin .append, args := #[s, x], argTypes := #[t, t] })
    (e : TypeId) (z : Value) (size bytes : Nat) (ht : P.underlying t = some (.slice e)) (hinfo : (P.info? e).map (fun i => (i.zero, i.size, i.bytes)) = some (some z, size, bytes)) (hz1 : z.cells.size = size) (hsz : 0 < size)
    (base : Nat) (A : Option Addr) (n c : Nat) (xs : List Value) (hs : a.eval s = .slice A n c) (hown : w.ownsRow base e size (.slice A n c) n xs)
    (g2 o2 m c2 : Nat) (news : List Value) (hx : a.eval x = .slice (some ⟨g2, o2, none⟩) m c2) (hm : news.length = m * size) (hsee : Seen w (some ⟨g2, o2, none⟩) news) (h1 : ∀ u ∈ news, u.oneCell' = true)
    (h63 : n + m ≤ maxLen) (hbytes : (n + m) * bytes ≤ 140737488355328) (hbase : base ≤ w.heap.size)
    (h : ∀ A' c' w', w'.ownsRow base e size (.slice A' (n + m) c') (n + m) (xs ++ news) → w.grownBy w' (Value.slice A n c).ownBlock → wpList P ops Q rest (a.put o.dst (.slice A' (n + m) c')) w') : wpList P ops Q (o :: rest) a w :=
  wpList_plain hgd fun K hK => by
    obtain ⟨i, hi, hz, hss, hb⟩ := info_parts hinfo
    have hcells : ∀ (j : Nat) u, news[j]? = some u → w.cell? ((⟨g2, o2, none⟩ : Addr).add j) = some u := by
      intro j u hu
      rcases hsee with rfl | ⟨g, o, hA, hc⟩
      · simp at hu
      · injection hA with hA
        rw [hA, Addr.add_lit]
        exact hc j u hu
    obtain ⟨v', w', hrun, hown', hg, _, hblk⟩ := run_append_own_at (P := P) w base t o.type e i z size bytes ht hi hz hss hb hz1 hsz _ n xs hown ⟨g2, o2, none⟩ m c2 news hm hcells h1 h63 hbytes hbase
    obtain ⟨A', c', rfl⟩ := own_formM hown'
    unfold Oper.wp execOp
    simp only [ho, resolve, invoke, builtin, Sem.run_bind, Sem.run_pure, Result.andThen_ok, List.map_toArray, List.map_cons, List.map_nil, hs, hx, hrun]
    exact hK _ _ (h A' c' w' hown' hg)
end
theorem eql_nilE (A : Option Addr) (n c : Nat) (w : World) : (binOp .eql 35 (.slice A n c) (.slice none 0 0)).run Try.prog w = .ok (.bool A.isNone) w := by
  simp only [binOp]
  simp [run_equal_slice_nil w 35 28 A n c Try.underlying35]
/-- what slices.Clone hands back: the same entries in a row of its own -/
def CloneRet (X : List Ent) (n : Nat) (w : World) (en : Ending) (w' : World) : Prop :=
  ∃ A c, en = .returned (.slice A n c) ∧ w'.ownsRow w.heap.size 28 3 (.slice A n c) n (entsV X) ∧ Below w.heap.size w w'
set_option maxRecDepth 100000 in
theorem CloneE_any (A : Option Addr) (n c : Nat) (X : List Ent) (w : World) (hn : X.length = n) (hl : n ≤ 100000) (hA : ∀ a, A = some a → a.spot = none) (h : Seen w A (entsV X)) :
    Calls Try.prog 20 #[.slice A n c] w (CloneRet X n w) := by
  have H := Lib.hid h; have Hn := Lib.hid hn
  rcases A with _ | ⟨g, o, sp⟩
  · obtain rfl : X = [] := by
      rcases h with h | ⟨g, o, hA, _⟩
      · have := congrArg List.length h
        rw [entsV_length] at this
        exact List.length_eq_zero_iff.1 (by simp only [List.length_nil] at this; omega)
      · cases hA
    simp at hn
    subst hn
    clear h
    have he := eql_nilE none 0 c
    simp only [Option.isNone_none] at he
    go_enter Try.func20, Try.ntmps20
    go_wp2
    go_ret
    exact ⟨none, 0, rfl, World.ownsRow_nil _ _ _ _, Below.refl _ _⟩
  · obtain rfl := hA _ rfl
    clear h hn hA
    have he := eql_nilE (some ⟨g, o, none⟩) n c
    simp only [Option.isNone_some] at he
    have hown0 : (w.alloc (.cells #[] 28)).ownsRow w.heap.size 28 3 (.slice (some ⟨w.heap.size, 0, none⟩) 0 0) 0 [] := World.ownsRow_lit w #[] 0 (Nat.le_refl _) (by unfold maxLen; omega) rfl
    have hb0 : Below w.heap.size w (w.alloc (.cells #[] 28)) := (Below.refl _ _).alloc (Nat.le_refl _) _
    have H0 := Lib.hid hown0; have Hb0 := Lib.hid hb0; clear hown0 hb0
    go_enter Try.func20, Try.ntmps20
    go_wp2_with (at_builtin; refine wpList_appm rfl (.tmp 5) (.tmp 6) _ rfl 28 _ 3 40 Try.underlying35 ent_info rfl (by omega) w.heap.size (some ⟨w.heap.size, 0, none⟩) 0 0 [] rfl H0.out g o n c (entsV X) rfl (by rw [entsV_length, Hn.out]) (H.out.below Hb0.out) (entsV_oneCell _) (by unfold maxLen; omega) (by omega) (by simp) ?_; intro A4 c4 w4 hown4 hg4; simp only [Nat.zero_add, List.nil_append] at hown4; have Hown4 := Lib.hid hown4; have Hb4 := Lib.hid (Hb0.out.grown hg4 (by simp) (fun j hj => (H0.out.lt j hj).1)); clear hown4 hg4; simp only [Nat.zero_add])
    go_ret
    exact ⟨A4, c4, rfl, Hown4.out, Hb4.out⟩

/-- what Cut hands back -/
def CutRet (B g : Nat) (q : Option Nat) (base term : Int) (x : List Dat) (w : World) (en : Ending) (w' : World) : Prop := en = .returned (.bool true) ∧ GrewL B g q base term x w w'
set_option maxRecDepth 100000 in
theorem Cut_no (B g n : Nat) (q : Option Nat) (base term i : Int) (X : List Ent) (w : World) (h : LogAt w B g q base term X) (hn : X.length = n) (h0 : 0 ≤ base) (hi : i < base ∨ base + n < i) (h3 : i ≤ 9223372036854775807) :
    Calls Try.prog 12 #[.pointer (some ⟨g, 0, none⟩), .int .i64 i] w fun e w' => e = .returned (.bool false) ∧ Below w.heap.size w w' := by
  have KT := Lib.hid (Term_no B g n q base term i X w h hn h0 hi h3)
  clear h hn h0 hi h3
  go_enter Try.func12, Try.ntmps12
  go_wp2_with (go_at_call 17; refine KT.out.mono ?_; rintro en w1 ⟨rfl, hb1⟩; have Hb1 := Lib.hid hb1; clear hb1)
  go_ret
  exact ⟨rfl, Hb1.out⟩
/-- a log that is cut: its slice, its base and its term written into the struct -/
theorem LogAt.cut {w w3 : World} {B g n p c c' : Nat} {q : Option Nat} {base term i t : Int} {X : List Ent} {A A' : Option Addr} (h : LogAt w B g q base term X) (hrow : w.heap[g]? = some (.cells #[.int .i64 base, .int .i64 term, .slice A n c] 43 (0, 0))) (hl : (X.drop p).length = n - p)
    (hb : Below w.heap.size w w3) (hown : w3.ownsRow w.heap.size 28 3 (.slice A' (n - p) c') (n - p) (entsV (X.drop p))) (hBw : B ≤ w.heap.size) :
    GrewL B g q i t ((X.drop p).map Ent.dat) w (((w3.setCell ⟨g, 2, none⟩ (.slice A' (n - p) c')).setCell ⟨g, 0, none⟩ (.int .i64 i)).setCell ⟨g, 1, none⟩ (.int .i64 t)) := by
  have hlt := (Array.getElem?_eq_some_iff.1 hrow).1
  have r3 := (hb.block g hlt).trans hrow
  have r4 := row_set (row_set (row_set r3 2 (.slice A' (n - p) c')) 0 (.int .i64 i)) 1 (.int .i64 t)
  have t4 : Turned (fun k => k = g) w3 (((w3.setCell ⟨g, 2, none⟩ (.slice A' (n - p) c')).setCell ⟨g, 0, none⟩ (.int .i64 i)).setCell ⟨g, 1, none⟩ (.int .i64 t)) :=
    (((Turned.refl (fun k => k = g) w3).setCell (b := ⟨g, 2, none⟩) (fun _ => rfl) _).setCell (b := ⟨g, 0, none⟩) (fun _ => rfl) _).setCell (b := ⟨g, 1, none⟩) (fun _ => rfl) _
  have hnb : NoBytes w3 (fun k => k = g) := fun k cs fr hk => (h.below hb).noBytes k cs fr (.inl hk)
  refine ⟨(Value.slice A' (n - p) c').ownBlock, ⟨X.drop p, rfl, h.hB, ⟨A', c', ?_, ?_, by rw [hl]⟩, fun x hx => ((h.ok x (List.mem_of_mem_drop hx)).below hb).turned t4 hnb⟩, fun k hk => .inr (hown.lt k hk).1, (Turned.of_below (p := FootL g q) hb).trans t4 (fun _ e => e) (fun _ _ e => .inl e)⟩
  · rw [hl]; exact r4
  · rw [hl]
    exact own_baseM (own_turnedM t4 hown fun k hk e => by have := (hown.lt k hk).1; omega) hBw
set_option maxRecDepth 100000 in
set_option maxHeartbeats 2000000 in
theorem Cut_at (B g n p : Nat) (q : Option Nat) (base term i : Int) (X : List Ent) (w : World) (h : LogAt w B g q base term X) (hn : X.length = n) (h0 : 0 ≤ base) (h3 : base ≤ 4611686018427387904) (hp : p ≤ n) (hi : i = base + p) (hl : n ≤ 100000) (hBw : B ≤ w.heap.size) :
    Calls Try.prog 12 #[.pointer (some ⟨g, 0, none⟩), .int .i64 i] w (CutRet B g q i (termN term (X.map Ent.dat) p) ((X.map Ent.dat).drop p) w) := by
  have KT := Lib.hid (Term_at B g p q base term i X w h h0 (by omega) hi (by omega) (by omega))
  obtain ⟨t0, ht0⟩ : ∃ t0, termN term (X.map Ent.dat) p = t0 := ⟨_, rfl⟩
  rw [ht0] at KT ⊢
  obtain ⟨y, hy⟩ : ∃ y, (X.map Ent.dat).drop p = y := ⟨_, rfl⟩
  rw [hy]
  have Hy := Lib.hid hy
  have H := Lib.hid h; have Hn := Lib.hid hn
  have s1 : IntKind.i64.wrap (i - base) = (p : Int) := by rw [i64_sub (by omega) (by omega)]; omega
  have p0 : (0 : Int) ≤ (p : Int) := by omega
  have p1 : (p : Int) ≤ (n : Int) := by omega
  clear h hn hi ht0 hy
  go_enter Try.func12, Try.ntmps12
  go_upto_region 4 with (go_at_call 17; refine KT.out.mono ?_; rintro en w1 ⟨rfl, hb1⟩; have Hb1 := Lib.hid hb1; clear hb1)
  have H1 := Lib.hid (H.out.below Hb1.out.drew)
  obtain ⟨A, c, hrow, hown, hq⟩ := H1.out.row
  rw [Hn.out] at hrow hown hq
  have hcc := own_capL hown
  have hpc : p ≤ c := by have := hcc.1; omega
  have p2 : (p : Int) ≤ (c : Int) := by omega
  have a0 : w1.drew.cell? ⟨g, 0, none⟩ = some (.int .i64 base) := row_cell hrow 0
  have a2 : w1.drew.cell? ⟨g, 2, none⟩ = some (.slice A n c) := row_cell hrow 2
  have hld : (X.drop p).length = n - p := by rw [List.length_drop, Hn.out]
  have hA : ∀ A' c' (hs' : ∀ a, A' = some a → a.spot = none) (hs : Seen w1.drew A' (entsV (X.drop p))), Calls Try.prog 20 #[.slice A' (n - p) c'] w1.drew (CloneRet (X.drop p) (n - p) w1.drew) := fun A' c' hs' hs => CloneE_any A' (n - p) c' (X.drop p) w1.drew hld (by omega) hs' hs
  have hs0 := Seen.drop (own_seen hown) (k := p * 3) (cap := c * 3) (by rw [entsV_length, Hn.out]; have := hcc.1; omega)
  rw [entsV_drop] at hs0
  have hA0 : A = none ∨ ∃ gA, A = some ⟨gA, 0, none⟩ := by
    rcases hown.2 with ⟨hv, hn0⟩ | ⟨gA, cap, cur, hv, _⟩
    · injection hv with hv _ _
      exact .inl hv
    · injection hv with hv _ _
      exact .inr ⟨gA, hv⟩
  have hlt := (Array.getElem?_eq_some_iff.1 hrow).1
  have Hrow := Lib.hid hrow; have Hld := Lib.hid hld; have Hlt := Lib.hid hlt
  have hn0 : A = none → c = 0 := fun e => by
    rcases hown.2 with ⟨hv, _⟩ | ⟨gA, cap, cur, hv, _⟩
    · injection hv
    · rw [e] at hv; cases hv
  clear hrow hown hq hcc hld hlt
  by_cases hcp : c = p
  · subst hcp
    rw [if_pos rfl] at hs0
    have KC := Lib.hid (hA _ 0 (by rcases hA0 with rfl | ⟨gA, rfl⟩ <;> intro a e <;> cases e; rfl) hs0)
    clear hA hs0 hA0 hn0
    go_region_with (go_at_call 20; refine KC.out.mono ?_; rintro en w5 ⟨A5, c5, rfl, hown5, hb5⟩; have r5 := (hb5.block g Hlt.out).trans Hrow.out; have z5 := row_frozen r5 2; have e5 := row_cell r5 2; have r6 := row_set r5 2 (.slice A5 (n - c) c5); have z6 := row_frozen r6 0; have e6 := row_cell r6 0; have r7 := row_set r6 0 (.int .i64 i); have z7 := row_frozen r7 1; have e7 := row_cell r7 1; have Hown5 := Lib.hid hown5; have Hb5 := Lib.hid hb5; clear hown5 hb5 r5 r6 r7)
    all_goals
      go_wp2
      go_ret
      have hL := H1.out.cut (i := i) (t := t0) Hrow.out Hld.out Hb5.out Hown5.out (Nat.le_trans hBw (Hb1.out.drew).size)
      rw [List.map_drop, Hy.out] at hL
      exact ⟨rfl, GrewL.step (fun k e => .inl e) (Turned.of_below Hb1.out.drew) hL⟩
  · obtain ⟨gA, rfl⟩ : ∃ gA, A = some ⟨gA, 0, none⟩ := by
      rcases hA0 with rfl | h
      · exact absurd (hn0 rfl) (by omega)
      · exact h
    rw [if_neg (by omega)] at hs0
    simp only [Option.map_some, Addr.add_lit, Nat.zero_add] at hs0
    have KC := Lib.hid (hA _ (c - p) (by intro a e; cases e; rfl) hs0)
    clear hA hs0 hA0 hn0
    go_region_with (go_at_call 20; refine KC.out.mono ?_; rintro en w5 ⟨A5, c5, rfl, hown5, hb5⟩; have r5 := (hb5.block g Hlt.out).trans Hrow.out; have z5 := row_frozen r5 2; have e5 := row_cell r5 2; have r6 := row_set r5 2 (.slice A5 (n - p) c5); have z6 := row_frozen r6 0; have e6 := row_cell r6 0; have r7 := row_set r6 0 (.int .i64 i); have z7 := row_frozen r7 1; have e7 := row_cell r7 1; have Hown5 := Lib.hid hown5; have Hb5 := Lib.hid hb5; clear hown5 hb5 r5 r6 r7)
    all_goals
      go_wp2
      go_ret
      have hL := H1.out.cut (i := i) (t := t0) Hrow.out Hld.out Hb5.out Hown5.out (Nat.le_trans hBw (Hb1.out.drew).size)
      rw [List.map_drop, Hy.out] at hL
      exact ⟨rfl, GrewL.step (fun k e => .inl e) (Turned.of_below Hb1.out.drew) hL⟩
end Go.Proofs.Ytigjkmlhpefafaa
