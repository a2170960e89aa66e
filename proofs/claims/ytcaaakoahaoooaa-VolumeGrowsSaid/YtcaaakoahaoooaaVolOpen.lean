/-
  Words for arguments that are a command (four ints and a policy), or a slice of commands: opened. They speak of no program of ours. No condition but what each lemma names.
-/
import Derived.Test.YtcaaakoahaoooaaPolOpen
import Derived.Test.YtcaaakoahaoooaaVolDrop
namespace Go.Proofs.Ytcaaakoahaoooaa
open Go.ChangeShapes Go.WideShapes Go.ChangeAt Go.RowKit
set_option linter.unusedVariables false

def cmdV (c : Cmd) : List Value := [.int .i64 c.k, .int .i64 c.a, .int .i64 c.b, .int .i64 c.c, .int .i64 c.p.re, .int .i64 c.p.we, .int .i64 c.p.li, .int .i64 c.p.bu]
/-- the command c at ⟨g, q⟩ -/
def CmdAt (w : World) (g q : Nat) (c : Cmd) : Prop := w.rangeAt g q (cmdV c) ∧ CmdIn c
/-- the slice that begins at A reads as l -/
def CmdsAt (w : World) (A : Option Addr) (l : List Cmd) : Prop :=
  l = [] ∨ ∃ g o, A = some ⟨g, o, none⟩ ∧ ∀ i c, l[i]? = some c → CmdAt w g (o + i * 8) c
theorem CmdAt.below {w w' : World} {g q : Nat} {c : Cmd} (h : CmdAt w g q c) (hb : Below w.heap.size w w') : CmdAt w' g q c :=
  ⟨fun j v hv => by rw [hb.cell (block_lt_of_cell (h.1 j v hv))]; exact h.1 j v hv, h.2⟩
theorem CmdsAt.below {w w' : World} {A : Option Addr} {l : List Cmd} (h : CmdsAt w A l) (hb : Below w.heap.size w w') : CmdsAt w' A l := by
  rcases h with rfl | ⟨g, o, hA, hc⟩
  · exact .inl rfl
  · exact .inr ⟨g, o, hA, fun i a ha => (hc i a ha).below hb⟩
theorem CmdsAt.get {w : World} {A : Option Addr} {l : List Cmd} (h : CmdsAt w A l) {k : Nat} (hk : k < l.length) : ∃ g o c, A = some ⟨g, o, none⟩ ∧ l[k]? = some c ∧ CmdAt w g (o + k * 8) c := by
  rcases h with rfl | ⟨g, o, hA, hc⟩
  · simp at hk
  · exact ⟨g, o, l[k], hA, List.getElem?_eq_getElem hk, hc k _ (List.getElem?_eq_getElem hk)⟩
section
variable {H : Type} {enc : TypeId × Value → H} {P : Program}
theorem ints_of {W : World} {base : Nat} {spare : Bool} {n : Nat} {x : Value} {y : DataW H × List MemPlace} {t : TypeId} (i0 : P.underlying t = some (.int .i64)) (h : DataW.trod enc P W base (fun _ => true) spare n t [x] = some y) : ∃ v, x = .int .i64 v ∧ In64 v := by
  obtain ⟨v, hb, _, hw⟩ := DataW.trod_int i0 h
  simp only [List.cons.injEq, and_true] at hb
  have k := bounds_i64 hw
  exact ⟨v, hb, k.1, k.2⟩
theorem open_cmd {W : World} {base : Nat} {v : Value} {d : DataW H} {p : List MemPlace} {te tp : TypeId} {fs gs : Array Field} {f0 f1 f2 f3 f4 g0 g1 g2 g3 : Field} (he : P.underlying te = some (.struct fs)) (hf : fs = #[f0, f1, f2, f3, f4])
    (hp : P.underlying tp = some (.struct gs)) (hg : gs = #[g0, g1, g2, g3]) (t4 : f4.type = tp)
    (o : f0.offset = 0 ∧ f1.offset = 1 ∧ f2.offset = 2 ∧ f3.offset = 3 ∧ f4.offset = 4) (og : g0.offset = 0 ∧ g1.offset = 1 ∧ g2.offset = 2 ∧ g3.offset = 3)
    {tz : TypeId} (iz : P.underlying tz = some (.int .i64)) (cz : P.cellsOf tz = 1) (ft : f0.type = tz ∧ f1.type = tz ∧ f2.type = tz ∧ f3.type = tz) (gt : g0.type = tz ∧ g1.type = tz ∧ g2.type = tz ∧ g3.type = tz)
    (cp : P.cellsOf tp = 4) (ce : P.cellsOf te = 8) (hval : Value.okWide P W .any base te v) (h : DataW.Trod enc P W 0 (fun _ => true) true te v d p) :
    ∃ c : Cmd, v = .agg #[.int .i64 c.k, .int .i64 c.a, .int .i64 c.b, .int .i64 c.c, .int .i64 c.p.re, .int .i64 c.p.we, .int .i64 c.p.li, .int .i64 c.p.bu] ∧ CmdIn c := by
  subst hf hg
  obtain ⟨cs, rfl, hsz⟩ := okWide_struct he hval
  obtain ⟨l⟩ := cs
  match l, hsz.trans ce with
  | [x0, x1, x2, x3, x4, x5, x6, x7], _ =>
      obtain ⟨fuel, hf⟩ := h
      obtain ⟨xs, n', _, _, _, hxl, hgt⟩ := DataW.trod_struct he hf
      have hs' : ∀ j, j < 5 → j < xs.length := fun j hj => by rw [hxl]; exact hj
      have e0 := hgt 0 f0 rfl
      have e1 := hgt 1 f1 rfl
      have e2 := hgt 2 f2 rfl
      have e3 := hgt 3 f3 rfl
      have e4 := hgt 4 f4 rfl
      rw [o.1, ft.1, cz, List.getElem?_eq_getElem (hs' 0 (by omega))] at e0
      rw [o.2.1, ft.2.1, cz, List.getElem?_eq_getElem (hs' 1 (by omega))] at e1
      rw [o.2.2.1, ft.2.2.1, cz, List.getElem?_eq_getElem (hs' 2 (by omega))] at e2
      rw [o.2.2.2.1, ft.2.2.2, cz, List.getElem?_eq_getElem (hs' 3 (by omega))] at e3
      rw [o.2.2.2.2, t4, cp, List.getElem?_eq_getElem (hs' 4 (by omega))] at e4
      simp only [Value.cells, List.drop_zero, List.take_succ_cons, List.take_zero, List.drop_succ_cons] at e0 e1 e2 e3 e4
      obtain ⟨ys, ny, _, _, _, hyl, hgy⟩ := DataW.trod_struct hp e4
      have hsy : ∀ j, j < 4 → j < ys.length := fun j hj => by rw [hyl]; exact hj
      have p0 := hgy 0 g0 rfl
      have p1 := hgy 1 g1 rfl
      have p2 := hgy 2 g2 rfl
      have p3 := hgy 3 g3 rfl
      rw [og.1, gt.1, cz, List.getElem?_eq_getElem (hsy 0 (by omega))] at p0
      rw [og.2.1, gt.2.1, cz, List.getElem?_eq_getElem (hsy 1 (by omega))] at p1
      rw [og.2.2.1, gt.2.2.1, cz, List.getElem?_eq_getElem (hsy 2 (by omega))] at p2
      rw [og.2.2.2, gt.2.2.2, cz, List.getElem?_eq_getElem (hsy 3 (by omega))] at p3
      simp only [List.drop_zero, List.take_succ_cons, List.take_zero, List.drop_succ_cons] at p0 p1 p2 p3
      obtain ⟨v0, rfl, k0⟩ := ints_of iz e0
      obtain ⟨v1, rfl, k1⟩ := ints_of iz e1
      obtain ⟨v2, rfl, k2⟩ := ints_of iz e2
      obtain ⟨v3, rfl, k3⟩ := ints_of iz e3
      obtain ⟨v4, rfl, k4⟩ := ints_of iz p0
      obtain ⟨v5, rfl, k5⟩ := ints_of iz p1
      obtain ⟨v6, rfl, k6⟩ := ints_of iz p2
      obtain ⟨v7, rfl, k7⟩ := ints_of iz p3
      exact ⟨⟨v0, v1, v2, v3, ⟨v4, v5, v6, v7⟩⟩, rfl, k0, k1, k2, k3, ⟨k4, k5, k6, k7⟩⟩
theorem open_cmds {W : World} {base : Nat} {v : Value} {d : DataW H} {p : List MemPlace} {tl te tp : TypeId} {fs gs : Array Field} {f0 f1 f2 f3 f4 g0 g1 g2 g3 : Field} (hl : P.underlying tl = some (.slice te)) (he : P.underlying te = some (.struct fs)) (hf : fs = #[f0, f1, f2, f3, f4])
    (hp : P.underlying tp = some (.struct gs)) (hg : gs = #[g0, g1, g2, g3]) (t4 : f4.type = tp)
    (o : f0.offset = 0 ∧ f1.offset = 1 ∧ f2.offset = 2 ∧ f3.offset = 3 ∧ f4.offset = 4) (og : g0.offset = 0 ∧ g1.offset = 1 ∧ g2.offset = 2 ∧ g3.offset = 3)
    {tz : TypeId} (iz : P.underlying tz = some (.int .i64)) (cz : P.cellsOf tz = 1) (ft : f0.type = tz ∧ f1.type = tz ∧ f2.type = tz ∧ f3.type = tz) (gt : g0.type = tz ∧ g1.type = tz ∧ g2.type = tz ∧ g3.type = tz)
    (cp : P.cellsOf tp = 4) (ce : P.cellsOf te = 8) (hval : Value.okWide P W .any base tl v) (h : DataW.Trod enc P W 0 (fun _ => true) true tl v d p) :
    ∃ A n c, ∃ l : List Cmd, v = .slice A n c ∧ l.length = n ∧ n ≤ c ∧ c ≤ maxLen ∧ CmdsAt W A l := by
  subst hf hg
  obtain ⟨a1, len, cap, rfl⟩ := okWide_slice hl hval
  obtain ⟨fuel, hf⟩ := h
  rcases Go.Deep.open_slice hl hf with ⟨hcs, hx⟩ | ⟨a, len', cap', m, n, D, Pl, hcs, _, hl1, hl2, hm, hx, hel⟩
  · simp [Value.cells] at hcs
    obtain ⟨rfl, rfl, rfl⟩ := hcs
    exact ⟨none, 0, 0, [], rfl, rfl, Nat.le_refl _, Nat.zero_le _, .inl rfl⟩
  · simp [Value.cells] at hcs
    obtain ⟨rfl, rfl, rfl⟩ := hcs
    simp only [if_true] at hm
    rw [ce] at hel
    by_cases hz : len = 0
    · subst hz
      exact ⟨some a, 0, cap, [], rfl, rfl, by omega, hl2, .inl rfl⟩
    have hspot : a.spot = none := by
      obtain ⟨cs', hc, _⟩ := hel 0 (by omega)
      obtain ⟨_, hcl, hat⟩ := World.cells?_some hc
      have h3 := hat 0 (by omega)
      rw [List.getElem?_eq_getElem (by omega)] at h3
      obtain ⟨g, o, sp⟩ := a
      simpa [Addr.add] using World.cell?_spot h3
    obtain ⟨g, oo, sp⟩ := a
    simp only at hspot
    subst hspot
    obtain ⟨l, hll, hlp⟩ := list_of (n := len) (p := fun i f => CmdAt W g (oo + i * 8) f) (fun i hi' => by
      obtain ⟨cs', hc, ht'⟩ := hel i (by omega)
      obtain ⟨_, hcl, hat⟩ := World.cells?_some hc
      obtain ⟨xs, n', _, _, _, hxl, hgt⟩ := DataW.trod_struct he ht'
      have hs' : ∀ j, j < 5 → j < xs.length := fun j hj => by rw [hxl]; exact hj
      have e0 := hgt 0 f0 rfl
      have e1 := hgt 1 f1 rfl
      have e2 := hgt 2 f2 rfl
      have e3 := hgt 3 f3 rfl
      have e4 := hgt 4 f4 rfl
      rw [o.1, ft.1, cz, List.getElem?_eq_getElem (hs' 0 (by omega))] at e0
      rw [o.2.1, ft.2.1, cz, List.getElem?_eq_getElem (hs' 1 (by omega))] at e1
      rw [o.2.2.1, ft.2.2.1, cz, List.getElem?_eq_getElem (hs' 2 (by omega))] at e2
      rw [o.2.2.2.1, ft.2.2.2, cz, List.getElem?_eq_getElem (hs' 3 (by omega))] at e3
      rw [o.2.2.2.2, t4, cp, List.getElem?_eq_getElem (hs' 4 (by omega))] at e4
      match cs', hcl with
      | [x0, x1, x2, x3, x4, x5, x6, x7], _ =>
        simp only [List.drop_zero, List.take_succ_cons, List.take_zero, List.drop_succ_cons] at e0 e1 e2 e3 e4
        obtain ⟨ys, ny, _, _, _, hyl, hgy⟩ := DataW.trod_struct hp e4
        have hsy : ∀ j, j < 4 → j < ys.length := fun j hj => by rw [hyl]; exact hj
        have p0 := hgy 0 g0 rfl
        have p1 := hgy 1 g1 rfl
        have p2 := hgy 2 g2 rfl
        have p3 := hgy 3 g3 rfl
        rw [og.1, gt.1, cz, List.getElem?_eq_getElem (hsy 0 (by omega))] at p0
        rw [og.2.1, gt.2.1, cz, List.getElem?_eq_getElem (hsy 1 (by omega))] at p1
        rw [og.2.2.1, gt.2.2.1, cz, List.getElem?_eq_getElem (hsy 2 (by omega))] at p2
        rw [og.2.2.2, gt.2.2.2, cz, List.getElem?_eq_getElem (hsy 3 (by omega))] at p3
        simp only [List.drop_zero, List.take_succ_cons, List.take_zero, List.drop_succ_cons] at p0 p1 p2 p3
        obtain ⟨v0, rfl, k0⟩ := ints_of iz e0
        obtain ⟨v1, rfl, k1⟩ := ints_of iz e1
        obtain ⟨v2, rfl, k2⟩ := ints_of iz e2
        obtain ⟨v3, rfl, k3⟩ := ints_of iz e3
        obtain ⟨v4, rfl, k4⟩ := ints_of iz p0
        obtain ⟨v5, rfl, k5⟩ := ints_of iz p1
        obtain ⟨v6, rfl, k6⟩ := ints_of iz p2
        obtain ⟨v7, rfl, k7⟩ := ints_of iz p3
        refine ⟨⟨v0, v1, v2, v3, ⟨v4, v5, v6, v7⟩⟩, fun j u hu => ?_, k0, k1, k2, k3, ⟨k4, k5, k6, k7⟩⟩
        have hj : j < 8 := (List.getElem?_eq_some_iff.1 hu).1
        have hq := hat j hj
        simp only [Addr.add_lit] at hq
        rw [hq]
        exact hu)
    exact ⟨_, len, cap, l, rfl, hll, hl1, hl2, .inr ⟨g, oo, rfl, hlp⟩⟩
end
end Go.Proofs.Ytcaaakoahaoooaa
