/-
  Contract of (*rlog.Log).Push, and an entry laid behind a log's. Conditions: a log in memory.
-/
import Derived.Test.YtigjkmlhpefafaaRlgCln
import Derived.Test.YtigjkmlhpefafaaStep
import Derived.Deep.RegionLaw
import Derived.Deep.RegionWith
namespace Go.Proofs.Ytigjkmlhpefafaa
open Go.ChangeShapes Go.WideShapes Go.ChangeAt Go.RowKit
set_option linter.unusedVariables false

/-- an entry laid behind a log's, its slice written into the struct -/
theorem LogAt.longer {w w3 w4 : World} {B g n c c' : Nat} {q : Option Nat} {base term : Int} {X : List Ent} {A A' : Option Addr} {e : Ent} (h : LogAt w B g q base term X) (hrow : w.heap[g]? = some (.cells #[.int .i64 base, .int .i64 term, .slice A n c] 43 (0, 0))) (hn : X.length = n) (hq : (Value.slice A n c).ownBlock = q)
    (hb : Below w.heap.size w w3) (he : EntOk w3 e) (hown : w4.ownsRow B 28 3 (.slice A' (n + 1) c') (n + 1) (entsV X ++ entC e)) (hg : w3.grownBy w4 (Value.slice A n c).ownBlock) (hk : ∀ k, (Value.slice A' (n + 1) c').ownBlock = some k → (Value.slice A n c).ownBlock = some k ∨ k = w3.heap.size) :
    GrewL B g q base term ((X ++ [e]).map Ent.dat) w (w4.setCell ⟨g, 2, none⟩ (.slice A' (n + 1) c')) := by
  have hlt := (Array.getElem?_eq_some_iff.1 hrow).1
  have hap := h.apart
  have hsz := hb.size
  have t4 : Turned (fun k => q = some k) w3 w4 := Turned.of_grown hg (p := fun k => q = some k) fun k e => by rw [← hq]; exact e
  have r3 := (hb.block g hlt).trans hrow
  have r4 := t4.heap r3 hap
  have t5 : Turned (FootL g q) w3 (w4.setCell ⟨g, 2, none⟩ (.slice A' (n + 1) c')) := (t4.mono (q := FootL g q) fun k _ e => .inr e).setCell (b := ⟨g, 2, none⟩) (fun _ => .inl rfl) _
  have hnb := (h.below hb).noBytes
  have hne : ∀ k, (Value.slice A' (n + 1) c').ownBlock = some k → k ≠ g := fun k hk' e => by
    rcases hk k hk' with e2 | e2
    · rw [hq, e] at e2; exact hap e2
    · omega
  have hl : (X ++ [e]).length = n + 1 := by rw [List.length_append, hn]; rfl
  refine ⟨(Value.slice A' (n + 1) c').ownBlock, ⟨X ++ [e], rfl, h.hB, ⟨A', c', ?_, ?_, by rw [hl]⟩, fun x hx => ?_⟩, fun k hk' => ?_, (Turned.of_below hb).trans t5 (p := FootL g q) (fun _ e => e) (fun _ _ e => e)⟩
  · rw [hl]; exact row_set r4 2 _
  · rw [hl, entsV_append, entsV_one1]
    exact own_turnedM ((Turned.refl (fun k => k = g) w4).setCell (b := ⟨g, 2, none⟩) (fun _ => rfl) _) hown fun k hk' e => hne k hk' e
  · rcases List.mem_append.1 hx with hx | hx
    · exact ((h.ok x hx).below hb).turned t5 hnb
    · rw [List.mem_singleton.1 hx]
      exact he.turned t5 hnb
  · rcases hk k hk' with e2 | e2
    · exact .inl (by rw [← hq]; exact e2)
    · exact .inr (by omega)

section
variable {P : Program} {w : World}
/-- an append, of elements of several cells, at a step of a region whose order is drawn; which block it may have written -/
theorem step_app3 {ops : Array Oper} {o : Oper} {a : Act} {K : Act → World → Prop} {Q : Exit → Act → World → Prop} {E : Prop} (hgd : o.guard = none) (s x : Operand) (t : TypeId)
    (ho : o.op = .call { callee := .builtin .append, args := #[s, x], argTypes := #[t, t] })
    (e : TypeId) (z : Value) (size bytes : Nat) (ht : P.underlying t = some (.slice e)) (hinfo : (P.info? e).map (fun i => (i.zero, i.size, i.bytes)) = some (some z, size, bytes)) (hz1 : z.cells.size = size) (hsz : 0 < size)
    (base : Nat) (A : Option Addr) (n c : Nat) (xs : List Value) (hs : a.eval s = .slice A n c) (hown : w.ownsRow base e size (.slice A n c) n xs)
    (g2 o2 m c2 : Nat) (news : List Value) (hx : a.eval x = .slice (some ⟨g2, o2, none⟩) m c2) (hm : news.length = m * size) (hsee : Seen w (some ⟨g2, o2, none⟩) news) (h1 : ∀ u ∈ news, u.oneCell' = true)
    (h63 : n + m ≤ maxLen) (hbytes : (n + m) * bytes ≤ 140737488355328) (hbase : base ≤ w.heap.size)
    (h : ∀ A' c' w', w'.ownsRow base e size (.slice A' (n + m) c') (n + m) (xs ++ news) → w.grownBy w' (Value.slice A n c).ownBlock → (∀ k, (Value.slice A' (n + m) c').ownBlock = some k → (Value.slice A n c).ownBlock = some k ∨ k = w.heap.size) → K (a.put o.dst (.slice A' (n + m) c')) w') : if Region.wanted o (yielded ops a.tmps) = true then Oper.wp P o a w K Q else E := by
  have hw : Region.wanted o (yielded ops a.tmps) = true := by simp [Region.wanted, hgd]
  rw [if_pos hw]
  obtain ⟨i, hi, hz, hss, hb⟩ := info_parts hinfo
  have hcells : ∀ (j : Nat) u, news[j]? = some u → w.cell? ((⟨g2, o2, none⟩ : Addr).add j) = some u := by
    intro j u hu
    rcases hsee with rfl | ⟨g, o, hA, hc⟩
    · simp at hu
    · injection hA with hA
      rw [hA, Addr.add_lit]
      exact hc j u hu
  obtain ⟨v', w', hrun, hown', hg, _, hblk⟩ := run_append_own_at (P := P) w base t o.type e i z size bytes ht hi hz hss hb hz1 hsz _ n xs hown ⟨g2, o2, none⟩ m c2 news hm hcells h1 h63 hbytes hbase
  obtain ⟨A', c', rfl⟩ := own_formM hown'
  unfold Oper.wp execOp
  simp only [ho, resolve, invoke, builtin, Sem.run_bind, Sem.run_pure, Result.andThen_ok, List.map_toArray, List.map_cons, List.map_nil, hs, hx, hrun]
  refine h A' c' w' hown' hg fun k hk => ?_
  rcases hblk with h | h
  · exact .inl (by rw [← h]; exact hk)
  · rw [h] at hk
    injection hk with hk
    exact .inr hk.symm
end

attribute [local go_sem ↓] ldEnt_eq
/-- what Push hands back -/
def PushRet (B g n : Nat) (q : Option Nat) (base term : Int) (x : List Dat) (w : World) (en : Ending) (w' : World) : Prop := en = .returned (.int .i64 (base + n + 1)) ∧ GrewL B g q base term x w w'
set_option maxRecDepth 100000 in
set_option maxHeartbeats 2000000 in
theorem Push_at (B g n : Nat) (q : Option Nat) (base term : Int) (X : List Ent) (e : Ent) (w : World) (h : LogAt w B g q base term X) (hn : X.length = n) (h0 : 0 ≤ base) (h3 : base ≤ 4611686018427387904) (hl : n ≤ 100000) (he : e.bs.length = e.n) (hel : e.n ≤ 10000) (hes : Seen w e.A (bytesV e.bs)) (hBw : B ≤ w.heap.size) :
    Calls Try.prog 7 #[.pointer (some ⟨g, 0, none⟩), .agg #[.int .i64 e.t, .int .i64 e.k, .slice e.A e.n e.c]] w (PushRet B g n q base term ((X ++ [e]).map Ent.dat) w) := by
  obtain ⟨y, hy⟩ : ∃ y, (X ++ [e]).map Ent.dat = y := ⟨_, rfl⟩
  rw [hy]
  have Hy := Lib.hid hy
  clear hy
  obtain ⟨w1, hw1, hb1, hh1⟩ := ent_box w e
  have H := Lib.hid h; have Hn := Lib.hid hn; have He := Lib.hid he; have Hes := Lib.hid (hes.below hb1); have Hb1 := Lib.hid hb1
  have KN := Lib.hid (next_any B g n q base term X w1 (h.below hb1) hn h0 h3 (by omega))
  have Hh1 := Lib.hid hh1
  obtain ⟨A, c, hrow, hown, hq⟩ := h.row
  rw [hn] at hrow hown hq
  have Hrow := Lib.hid hrow; have Hown := Lib.hid hown; have Hq := Lib.hid hq
  clear h hn he hes hb1 hh1 hrow hown hq
  go_enter Try.func7, Try.ntmps7
  go_upto_region 3 with (go_at_call 15; refine KN.out.mono ?_; rintro en w2 ⟨rfl, hb2⟩; have Hb2 := Lib.hid hb2; clear hb2)
  have hbw2 : Below w.heap.size w w2.drew := (Hb1.out.trans (Hb2.out.mono Hb1.out.size)).drew
  have hx2 := (Hb2.out.block w.heap.size (Array.getElem?_eq_some_iff.1 Hh1.out).1).trans Hh1.out
  have hx2d : w2.drew.heap[w.heap.size]? = some (.cells #[.int .i64 e.t, .int .i64 e.k, .slice e.A e.n e.c] 28 (0, 0)) := hx2
  have hld := ldEnt_run (e := e) (row_cell hx2d 0) (row_cell hx2d 1) (row_cell hx2d 2)
  have a2 : w2.drew.cell? ⟨g, 2, none⟩ = some (.slice A n c) := (hbw2.cell (p := ⟨g, 2, none⟩) (Array.getElem?_eq_some_iff.1 Hrow.out).1).trans (row_cell Hrow.out 2)
  have KC := Lib.hid (clone_any e.t e.k e.A e.n e.c e.bs w2.drew He.out hel (Hes.out.below (below_drewN Hb2.out 1)))
  have Hbw2 := Lib.hid hbw2
  clear hbw2 hx2 hx2d
  go_region_law (first
    | (go_simp; go_at_call 16; go_loud (refine KC.out.mono ?_; rintro en w5 ⟨A5, c5, rfl, hown5, hb5⟩; simp only at hown5; obtain ⟨w6, hw6, hb6, hh6⟩ := ent_box w5 ⟨e.t, e.k, A5, e.n, c5, e.bs⟩; simp only at hw6 hh6; have b5 := Hbw2.out.trans (hb5.mono Hbw2.out.size); have b6 := b5.trans (hb6.mono b5.size); have a5 : w5.cell? ⟨g, 2, none⟩ = some (.slice A n c) := (b5.cell (p := ⟨g, 2, none⟩) (Array.getElem?_eq_some_iff.1 Hrow.out).1).trans (row_cell Hrow.out 2); have a6 : w6.cell? ⟨g, 2, none⟩ = some (.slice A n c) := (b6.cell (p := ⟨g, 2, none⟩) (Array.getElem?_eq_some_iff.1 Hrow.out).1).trans (row_cell Hrow.out 2); have Hown6 := Lib.hid (own_below hown5 hb6); have Hown := Lib.hid (own_belowM Hown.out b6); have Hb6 := Lib.hid b6; have Hsee6 := Lib.hid (Seen.of_cells hh6); clear hown5 hb5 hb6 hh6 b5 b6))
    | (refine step_app3 (by rfl) (.tmp 14) (.tmp 17) _ (by rfl) 28 _ 3 40 Try.underlying35 ent_info rfl (by omega) B A n c (entsV X) (by rfl) Hown.out w5.heap.size 0 1 1 (entC ⟨e.t, e.k, A5, e.n, c5, e.bs⟩) (by rfl) rfl Hsee6.out (by simp [entC, Value.oneCell']) (by unfold maxLen; omega) (by omega) (by have := Hb6.out.size; omega) ?_; intro A7 c7 w7 hown7 hg7 hk7; have Hown7 := Lib.hid hown7; have Hg7 := Lib.hid hg7; have Hk7 := Lib.hid hk7; have t7 := Turned.of_grown (p := fun k => (Value.slice A n c).ownBlock = some k) hg7 (fun k e => e); have r7 := t7.heap ((Hb6.out.block g (Array.getElem?_eq_some_iff.1 Hrow.out).1).trans Hrow.out) (fun e => H.out.apart (by rw [← Hq.out]; exact e)); have a7 := row_cell r7 2; have z7 := row_frozen r7 2; clear hown7 hg7 hk7 t7 r7))
  all_goals
    go_wp2
    go_ret
    have hL := H.out.longer (e := ⟨e.t, e.k, A5, e.n, c5, e.bs⟩) Hrow.out Hn.out Hq.out Hb6.out ⟨He.out, hel, SeenU.own Hown6.out⟩ Hown7.out Hg7.out Hk7.out
    have hd : (X ++ [(⟨e.t, e.k, A5, e.n, c5, e.bs⟩ : Ent)]).map Ent.dat = (X ++ [e]).map Ent.dat := by simp [Ent.dat]
    rw [hd, Hy.out] at hL
    have HL := Lib.hid hL
    unfold PushRet
    exact ⟨rfl, HL.out⟩
/-- Push at a log that says x -/
theorem Push_any (B g n : Nat) (q : Option Nat) (base term : Int) (x : List Dat) (t k : Int) (A : Option Addr) (m c : Nat) (bs : List UInt8) (w : World) (h : LogD w B g q base term x) (hn : x.length = n) (h0 : 0 ≤ base) (h3 : base ≤ 4611686018427387904) (hl : n ≤ 100000) (he : bs.length = m) (hel : m ≤ 10000) (hes : Seen w A (bytesV bs)) (hBw : B ≤ w.heap.size) :
    Calls Try.prog 7 #[.pointer (some ⟨g, 0, none⟩), .agg #[.int .i64 t, .int .i64 k, .slice A m c]] w (PushRet B g n q base term (x ++ [(t, k, bs)]) w) := by
  obtain ⟨X, rfl, h⟩ := h
  have := Push_at B g n q base term X ⟨t, k, A, m, c, bs⟩ w h (by simpa using hn) h0 h3 hl he hel hes hBw
  simpa [Ent.dat] using this
end Go.Proofs.Ytigjkmlhpefafaa
