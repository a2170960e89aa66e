/-
  Words for a select of one case with a default, in one goroutine, inside a walk: a region that begins with it (wp_sel_ ..), and channels in memory. They speak of no program of ours. No condition but what each lemma names.
-/
import Derived.Test.YtbialoaphgmigaaKept
import Derived.Conc.LoneSelect
namespace Go.Proofs.Ytbialoaphgmigaa
open Go.ChangeShapes Go.WideShapes Go.ChangeAt Go.RowKit Go.Conc
set_option linter.unusedVariables false

section
variable {P : Program} {b : Frame} {a : Act} {k : List Item} {cs : List Frame} {w w' : World} {ops : Array Oper} {i : Nat} {rest : List Nat} {o : Oper}

theorem stepG_comm_any {cases : Array CommCase} {blocking : Bool} {shape : CommShape} (ho : ops[i]? = some o) (hw : Region.wanted o (yielded ops a.tmps) = true)
    (hr : (execOp a.eval o).run P w = .ok (.comm cases blocking shape) w') :
    ∃ es, stepG P true (G (b.at a (.inRegion ops (i :: rest) :: k)) cs) w = .comm (G (b.at a (.inRegion ops (i :: rest) :: k)) cs) cases blocking shape w' es := by
  rw [stepG_oper ho hw]
  simp [stepG.apply, hr, G, Frame.at, GStep.after]

theorem wp_region_comm {id : Nat} {Q : Exit → Act → World → Prop} {v : Value} (ho : ops[0]? = some o) (hl : List.range ops.size = 0 :: rest)
    (hst : ∀ (b : Frame) (k : List Item) (cs : List Frame), step P (solo (G (b.at a (.inRegion ops (0 :: rest) :: k)) cs) w) = .next (solo (G ((b.at a (.inRegion ops (0 :: rest) :: k)).finish v) cs) w'))
    (h : wpOps P ops Q rest (a.put o.dst v) w') : (Code.region id ops false).wp P Q a w := by
  intro b k cs
  obtain ⟨e, a', w'', hq, harr⟩ := wp_ops rest _ _ h b k cs
  refine ⟨e, a', w'', hq, .of_steps (.head step_region (.head (m₁ := solo (G ((b.at a (.inRegion ops (0 :: rest) :: k)).finish v) cs) w') ?_ ?_)) harr⟩
  · rw [hl, lone_eq_solo]
    exact hst b k cs
  · rw [Frame.finish_at, ho]
    exact .refl _ _
end

section
variable {P : Program} {a : Act} {w : World} {l : List Oper} {o : Oper} {id c cap s r : Nat} {buf : Array Value} {v z : Value} {tm : Bool} {x y : Operand} {T : TypeId} {Q : Exit → Act → World → Prop}

theorem run_sel_recv {i : TypeInfo} (hop : o.op = .select #[{ chan := x, send := none, elem := T }] false) (hx : a.eval x = .chan (some c)) (hi : P.info? T = some i) (hz : i.zero = some z) :
    (execOp a.eval o).run P w = .ok (.comm #[rcase c z] false .select) w := by
  simp [execOp, hop, hx, zeroValue, typeInfo, hi, hz, rcase]
theorem run_sel_send {i : TypeInfo} (hop : o.op = .select #[{ chan := x, send := some y, elem := T }] false) (hx : a.eval x = .chan (some c)) (hy : a.eval y = v) (hi : P.info? T = some i) (hz : i.zero = some z) :
    (execOp a.eval o).run P w = .ok (.comm #[scase c v z] false .select) w := by
  simp [execOp, hop, hx, hy, zeroValue, typeInfo, hi, hz, scase]

variable {i : TypeInfo}
theorem range_one (o : Oper) (l : List Oper) : List.range (o :: l).toArray.size = 0 :: List.range' 1 l.length := by simp [List.range_eq_range', List.range'_succ]
/-- a receive, and there is something -/
theorem wp_sel_recv (hw : o.guard = none) (hop : o.op = .select #[{ chan := x, send := none, elem := T }] false) (hx : a.eval x = .chan (some c)) (hi : P.info? T = some i) (hz : i.zero = some z)
    (hc : w.heap[c]? = some (.chan cap buf false s r tm)) (hb : buf[0]? = some v)
    (h : wpList P (o :: l).toArray Q l (a.put o.dst (.tuple #[goInt 0, .bool true, v])) (w.setChan c cap (buf.extract 1 buf.size) false s (r + 1) tm)) : (Code.region id (o :: l).toArray false).wp P Q a w := by
  have hsome : 0 < buf.size := (Array.getElem?_eq_some_iff.1 hb).1
  have hv : buf.getD 0 undef = v := by simp [Array.getD_eq_getD_getElem?, hb]
  refine wp_region_comm (o := o) (rest := List.range' 1 l.length) rfl (range_one o l) (fun b k cs => ?_) (by rw [wpOps_eq_wpList l 1 (fun j => by simp [Nat.add_comm])]; exact h)
  obtain ⟨es, hes⟩ := stepG_comm_any (P := P) (b := b) (a := a) (k := k) (cs := cs) (w := w) (ops := (o :: l).toArray) (i := 0) (rest := List.range' 1 l.length) (o := o) rfl (by simp [Region.wanted, hw]) (run_sel_recv hop hx hi hz)
  have := step_lone_select_recv_buf hes hc hsome
  rwa [hv] at this
/-- a receive, and there is nothing -/
theorem wp_sel_recv_none (hw : o.guard = none) (hop : o.op = .select #[{ chan := x, send := none, elem := T }] false) (hx : a.eval x = .chan (some c)) (hi : P.info? T = some i) (hz : i.zero = some z)
    (hc : w.heap[c]? = some (.chan cap #[] false s r tm))
    (h : wpList P (o :: l).toArray Q l (a.put o.dst (.tuple #[goInt (-1), .bool false, z])) w) : (Code.region id (o :: l).toArray false).wp P Q a w := by
  refine wp_region_comm (o := o) (rest := List.range' 1 l.length) rfl (range_one o l) (fun b k cs => ?_) (by rw [wpOps_eq_wpList l 1 (fun j => by simp [Nat.add_comm])]; exact h)
  obtain ⟨es, hes⟩ := stepG_comm_any (P := P) (b := b) (a := a) (k := k) (cs := cs) (w := w) (ops := (o :: l).toArray) (i := 0) (rest := List.range' 1 l.length) (o := o) rfl (by simp [Region.wanted, hw]) (run_sel_recv hop hx hi hz)
  exact step_lone_select_default hes hc
/-- a send, and there is room -/
theorem wp_sel_send (hw : o.guard = none) (hop : o.op = .select #[{ chan := x, send := some y, elem := T }] false) (hx : a.eval x = .chan (some c)) (hy : a.eval y = v) (hi : P.info? T = some i) (hz : i.zero = some z)
    (hc : w.heap[c]? = some (.chan cap buf false s r tm)) (hroom : buf.size < cap)
    (h : wpList P (o :: l).toArray Q l (a.put o.dst (.tuple #[goInt 0, .bool false])) (w.setChan c cap (buf.push v) false (s + 1) r tm)) : (Code.region id (o :: l).toArray false).wp P Q a w := by
  refine wp_region_comm (o := o) (rest := List.range' 1 l.length) rfl (range_one o l) (fun b k cs => ?_) (by rw [wpOps_eq_wpList l 1 (fun j => by simp [Nat.add_comm])]; exact h)
  obtain ⟨es, hes⟩ := stepG_comm_any (P := P) (b := b) (a := a) (k := k) (cs := cs) (w := w) (ops := (o :: l).toArray) (i := 0) (rest := List.range' 1 l.length) (o := o) rfl (by simp [Region.wanted, hw]) (run_sel_send hop hx hy hi hz)
  exact step_lone_select_send_room hes hc hroom
/-- a send, and there is no room -/
theorem wp_sel_send_full (hw : o.guard = none) (hop : o.op = .select #[{ chan := x, send := some y, elem := T }] false) (hx : a.eval x = .chan (some c)) (hy : a.eval y = v) (hi : P.info? T = some i) (hz : i.zero = some z)
    (hc : w.heap[c]? = some (.chan cap buf false s r tm)) (hfull : cap ≤ buf.size)
    (h : wpList P (o :: l).toArray Q l (a.put o.dst (.tuple #[goInt (-1), .bool false])) w) : (Code.region id (o :: l).toArray false).wp P Q a w := by
  refine wp_region_comm (o := o) (rest := List.range' 1 l.length) rfl (range_one o l) (fun b k cs => ?_) (by rw [wpOps_eq_wpList l 1 (fun j => by simp [Nat.add_comm])]; exact h)
  obtain ⟨es, hes⟩ := stepG_comm_any (P := P) (b := b) (a := a) (k := k) (cs := cs) (w := w) (ops := (o :: l).toArray) (i := 0) (rest := List.range' 1 l.length) (o := o) rfl (by simp [Region.wanted, hw]) (run_sel_send hop hx hy hi hz)
  exact step_lone_select_send_full hes hc hfull
end

/-- what a channel's turning leaves -/
theorem Turned.setChan {p : Nat → Prop} {a w : World} (h : Turned p a w) {c : Nat} (hc : c < a.heap.size → p c) (cap : Nat) (buf : Array Value) (cl : Bool) (s r : Nat) (tm : Bool) : Turned p a (w.setChan c cap buf cl s r tm) :=
  ⟨h.os, h.tape, h.output, by simpa [World.setChan] using h.size, fun k hk hn => by
    have hne : c ≠ k := fun e => hn (by subst e; exact hc hk)
    simp only [World.setChan]
    rw [Array.getElem?_setIfInBounds_ne hne]
    exact h.block k hk hn⟩
theorem setChan_at {w : World} {c cap : Nat} {buf : Array Value} {cl : Bool} {s r : Nat} {tm : Bool} {o : Obj} (h : w.heap[c]? = some o) : (w.setChan c cap buf cl s r tm).heap[c]? = some (.chan cap buf cl s r tm) :=
  heap_setChan w c cap buf cl s r tm (Array.getElem?_eq_some_iff.1 h).1
theorem setChan_else {w : World} {c k cap : Nat} {buf : Array Value} {cl : Bool} {s r : Nat} {tm : Bool} (h : c ≠ k) : (w.setChan c cap buf cl s r tm).heap[k]? = w.heap[k]? := by
  simp [World.setChan, Array.getElem?_setIfInBounds_ne h]
end Go.Proofs.Ytbialoaphgmigaa
