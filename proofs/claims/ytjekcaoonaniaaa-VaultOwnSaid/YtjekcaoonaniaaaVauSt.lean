/-
  A vault by definition (Vt): the two places, the changes since, what a device then shows, and what a change makes of it. It speaks of no program but by the model's own definitions. No condition but what each lemma names.
-/
import Derived.Test.YtjekcaoonaniaaaVauAt
namespace Go.Proofs.Ytjekcaoonaniaaa
open Go.ChangeShapes Go.WideShapes Go.ChangeAt Go.RowKit Go.Maps
set_option linter.unusedVariables false

structure Vt where
  n : Nat
  gen : Nat
  next : Nat
  p0 : Pl
  p1 : Pl
  base : Vals
  cs : List Chg
def Vt.q (st : Vt) : Nat := st.n / 4
def Vt.a (st : Vt) : Nat := 2 * (st.n / 4)
def Vt.m (st : Vt) : Nat := st.n - 2 * (st.n / 4)
def Vt.texts (st : Vt) : List (List UInt8) := st.cs.map Chg.text
def Vt.x (st : Vt) : Vals := onAll st.cs st.base
def Vt.used (st : Vt) : Nat := secsUp st.gen 0 st.texts
def Vt.places (st : Vt) : List UInt8 := plB st.q st.p0 ++ plB st.q st.p1
def Vt.bytes (st : Vt) : List UInt8 := st.places ++ (formsX 1 st.gen 0 st.texts ++ List.replicate (64 * (st.m - st.used)) 0)
structure Vt.Ok (st : Vt) : Prop where
  n8 : 8 ≤ st.n
  n4 : st.n ≤ 4096
  g : st.gen ≤ 1099511627776
  p0 : PlOk st.q st.p0
  p1 : PlOk st.q st.p1
  cs : ∀ c ∈ st.cs, c.Ok
  room : st.used ≤ st.m
  cur : (st.gen = 0 ∧ st.next = 0 ∧ st.p0 = none ∧ st.p1 = none ∧ st.base = []) ∨ (1 ≤ st.gen ∧ st.next = st.q ∧ st.p0 = some (st.gen, st.base) ∧ plG st.p1 < st.gen) ∨ (1 ≤ st.gen ∧ st.next = 0 ∧ st.p1 = some (st.gen, st.base) ∧ plG st.p0 < st.gen)
theorem Vt.texts_length (st : Vt) : st.texts.length = st.cs.length := by simp [Vt.texts]
theorem Vt.Ok.qn {st : Vt} (h : st.Ok) : 2 ≤ st.q ∧ st.q ≤ 1024 ∧ st.a = 2 * st.q ∧ st.a + st.m = st.n ∧ st.q + st.q ≤ st.n := by
  have := h.n8; have := h.n4
  unfold Vt.q Vt.a Vt.m
  omega
theorem pl_length {q : Nat} {p : Nat × Vals} (h : PlOk q (some p)) : p.2.length < q := by
  have := secsUp_ge p.1 0 (cpTexts p.2)
  rw [cpTexts_length] at this
  have := h.2.2.2
  show p.2.length < q
  omega
theorem Vt.Ok.base {st : Vt} (h : st.Ok) : GoodV st.base ∧ st.base.length ≤ 1024 := by
  have hq := h.qn
  rcases h.cur with ⟨_, _, _, _, e⟩ | ⟨_, _, e, _⟩ | ⟨_, _, e, _⟩
  · rw [e]; exact ⟨GoodV.nil, Nat.zero_le _⟩
  · have := h.p0; rw [e] at this; exact ⟨this.1, by have := pl_length this; simp only at this; omega⟩
  · have := h.p1; rw [e] at this; exact ⟨this.1, by have := pl_length this; simp only at this; omega⟩
theorem Vt.Ok.few {st : Vt} (h : st.Ok) : st.cs.length ≤ 4096 := by
  have := secsUp_ge st.gen 0 st.texts
  rw [st.texts_length] at this
  have h1 := h.room; have h2 := h.qn; have h3 := h.n4
  unfold Vt.used at h1
  omega
theorem onAll_length : ∀ (cs : List Chg) (x : Vals), (onAll cs x).length ≤ x.length + cs.length
  | [], _ => Nat.le_refl _
  | c :: r, x => by
    have h1 := onAll_length r (c.on x)
    have h2 := c.on_length x
    simp only [onAll, List.foldl_cons, List.length_cons] at *
    omega
theorem Vt.Ok.good {st : Vt} (h : st.Ok) : GoodV st.x := onAll_good h.cs h.base.1
theorem Vt.Ok.xlen {st : Vt} (h : st.Ok) : st.x.length ≤ 5120 := by
  have h1 := onAll_length st.cs st.base
  have h2 := h.base.2; have h3 := h.few
  unfold Vt.x
  omega
theorem Vt.Ok.small {st : Vt} (h : st.Ok) : ∀ t ∈ st.texts, t.length ≤ 930 := fun t ht => by
  obtain ⟨c, hc, rfl⟩ := List.mem_map.1 ht
  have := c.text_len (h.cs c hc)
  omega
theorem Vt.Ok.forms {st : Vt} (h : st.Ok) : ∀ (i : Nat) t, st.texts[i]? = some t → formE st.gen (i : Int) t = 0 := fun i t hi => by
  have hlt := (List.getElem?_eq_some_iff.1 hi).1
  rw [st.texts_length] at hlt
  have := h.few
  exact form_ok h.g (by omega) (h.small t (List.mem_of_getElem? hi))
theorem Vt.Ok.places_length {st : Vt} (h : st.Ok) : st.places.length = 64 * st.a := by
  have := h.qn
  unfold Vt.places
  rw [List.length_append, plB_length h.p0, plB_length h.p1]
  omega
theorem Vt.Ok.rest_length {st : Vt} (h : st.Ok) : (formsX 1 st.gen 0 st.texts ++ List.replicate (64 * (st.m - st.used)) 0).length = 64 * st.m := by
  have := h.room
  unfold Vt.used at *
  rw [List.length_append, formsX_length, List.length_replicate]
  omega
theorem Vt.Ok.bytes_length {st : Vt} (h : st.Ok) : st.bytes.length = st.n * 64 := by
  have := h.qn
  unfold Vt.bytes
  rw [List.length_append, h.places_length, h.rest_length]
  omega
/-- the device shows it, and nothing waits -/
structure DevOk (d : Dv) (st : Vt) : Prop where
  up : d.Up
  n : d.n = st.n
  L : d.L = []
  view : d.view = st.bytes
theorem DevOk.part0 {d : Dv} {st : Vt} (h : DevOk d st) (k : st.Ok) : d.part 0 st.q = plB st.q st.p0 := by
  unfold Dv.part
  rw [h.view, Nat.mul_zero, List.drop_zero]
  unfold Vt.bytes Vt.places
  rw [List.append_assoc, List.take_left' (plB_length k.p0)]
theorem DevOk.part1 {d : Dv} {st : Vt} (h : DevOk d st) (k : st.Ok) : d.part st.q st.q = plB st.q st.p1 := by
  unfold Dv.part
  rw [h.view]
  unfold Vt.bytes Vt.places
  rw [List.append_assoc, List.drop_left' (plB_length k.p0), List.take_left' (plB_length k.p1)]
theorem DevOk.part2 {d : Dv} {st : Vt} (h : DevOk d st) (k : st.Ok) : d.part st.a st.m = formsX 1 st.gen 0 st.texts ++ List.replicate (64 * (st.m - st.used)) 0 := by
  unfold Dv.part
  rw [h.view]
  unfold Vt.bytes
  rw [List.drop_left' k.places_length, List.take_of_length_le (by rw [k.rest_length]; exact Nat.le_refl _)]
theorem DevOk.scanned {d : Dv} {st : Vt} (h : DevOk d st) (k : st.Ok) : Scanned st.gen (d.part st.a st.m) st.texts := by
  rw [h.part2 k]
  exact scanned_forms k.forms
theorem DevOk.scanned_no {d : Dv} {st : Vt} (h : DevOk d st) (k : st.Ok) {other : Nat} (hne : st.gen ≠ other) : Scanned other (d.part st.a st.m) [] := by
  rw [h.part2 k]
  exact scanned_other hne k.forms

/-- a vault's journal: the records of the changes in their part, all flushed -/
structure JouOk (J : Jn) (st : Vt) : Prop where
  run : ∃ V, RunP J st.n st.a st.m st.gen V st.texts [] ∧ V.take (64 * st.a) = st.places
  L : J.d.L = []
theorem JouOk.dev {J : Jn} {st : Vt} (h : JouOk J st) (k : st.Ok) : DevOk J.d st := by
  obtain ⟨V, h1, h2⟩ := h.run
  have hq := k.qn
  refine ⟨h1.up, h1.dn, h.L, ?_⟩
  rw [h1.view]
  unfold laidAt
  rw [h2, hq.2.2.2.1, List.drop_of_length_le (by rw [h1.vlen]; omega), List.append_nil, List.append_nil]
  show st.places ++ (formsX 1 st.gen 0 st.texts ++ (formsX 0 st.gen _ [] ++ _)) = _
  rw [show formsX 0 st.gen st.texts.length [] = [] from rfl, List.nil_append]
  rfl
/-- as journal.Open makes it of what the device shows -/
theorem JouOk.opened {J : Jn} {d : Dv} {st : Vt} (h : DevOk d st) (k : st.Ok) (hr : RunP J st.n st.a st.m st.gen d.view st.texts []) (hL : J.d.L = []) : JouOk J st := by
  refine ⟨⟨d.view, hr, ?_⟩, hL⟩
  rw [h.view]
  unfold Vt.bytes
  rw [List.take_left' k.places_length]

/-! ### a change -/
def Vt.noted (st : Vt) (c : Chg) : Vt := { st with cs := st.cs ++ [c] }
def Vt.turned (st : Vt) (c : Chg) : Vt :=
  { st with gen := st.gen + 1, next := st.q - st.next, base := c.on st.x, cs := [],
            p0 := if st.next = 0 then some (st.gen + 1, c.on st.x) else st.p0, p1 := if st.next = 0 then st.p1 else some (st.gen + 1, c.on st.x) }
/-- is there room in the journal -/
def Vt.fits (st : Vt) (c : Chg) : Prop := manyOf st.gen st.cs.length c.text ≤ st.m - st.used
/-- has the next checkpoint room -/
def Vt.turns (st : Vt) (c : Chg) : Prop := st.gen + 1 ≤ 1099511627776 ∧ secsUp (st.gen + 1) 0 (cpTexts (c.on st.x)) ≤ st.q
theorem Vt.noted_x (st : Vt) (c : Chg) : (st.noted c).x = c.on st.x := onAll_snoc _ _ _
theorem Vt.turned_x (st : Vt) (c : Chg) : (st.turned c).x = c.on st.x := rfl
theorem Vt.noted_texts (st : Vt) (c : Chg) : (st.noted c).texts = st.texts ++ [c.text] := by simp [Vt.texts, Vt.noted]
theorem Vt.Ok.noted {st : Vt} (h : st.Ok) {c : Chg} (hc : c.Ok) (hf : st.fits c) : (st.noted c).Ok := by
  refine ⟨h.n8, h.n4, h.g, h.p0, h.p1, fun d hd => ?_, ?_, h.cur⟩
  · simp only [Vt.noted, List.mem_append, List.mem_singleton] at hd
    rcases hd with hd | rfl
    · exact h.cs d hd
    · exact hc
  · show secsUp st.gen 0 (st.noted c).texts ≤ st.m
    rw [st.noted_texts, secsUp_snoc, Nat.zero_add, st.texts_length]
    have := h.room
    unfold Vt.used at this
    unfold Vt.fits Vt.used at hf
    omega
theorem Vt.Ok.next {st : Vt} (h : st.Ok) : st.next = 0 ∨ st.next = st.q := by
  rcases h.cur with ⟨_, e, _⟩ | ⟨_, e, _⟩ | ⟨_, e, _⟩
  · exact .inl e
  · exact .inr e
  · exact .inl e
theorem Vt.Ok.turned {st : Vt} (h : st.Ok) {c : Chg} (hc : c.Ok) (ht : st.turns c) : (st.turned c).Ok := by
  have hq := h.qn
  have hnew : PlOk st.q (some (st.gen + 1, c.on st.x)) := ⟨Chg.on_good hc h.good, by omega, ht.1, ht.2⟩
  refine ⟨h.n8, h.n4, ht.1, ?_, ?_, (fun d hd => by cases hd), Nat.zero_le _, ?_⟩
  · show PlOk st.q (if st.next = 0 then _ else _)
    split
    · exact hnew
    · exact h.p0
  · show PlOk st.q (if st.next = 0 then _ else _)
    split
    · exact h.p1
    · exact hnew
  · show _ ∨ (1 ≤ st.gen + 1 ∧ st.q - st.next = st.q ∧ (if st.next = 0 then some (st.gen + 1, c.on st.x) else st.p0) = some (st.gen + 1, c.on st.x) ∧ plG (if st.next = 0 then st.p1 else some (st.gen + 1, c.on st.x)) < st.gen + 1) ∨
      (1 ≤ st.gen + 1 ∧ st.q - st.next = 0 ∧ (if st.next = 0 then st.p1 else some (st.gen + 1, c.on st.x)) = some (st.gen + 1, c.on st.x) ∧ plG (if st.next = 0 then some (st.gen + 1, c.on st.x) else st.p0) < st.gen + 1)
    rcases h.cur with ⟨e1, e2, e3, e4, e5⟩ | ⟨e1, e2, e3, e4⟩ | ⟨e1, e2, e3, e4⟩
    · rw [if_pos e2, if_pos e2]
      exact .inr (.inl ⟨by omega, by omega, rfl, by rw [e4]; show 0 < _; omega⟩)
    · rw [if_neg (by omega), if_neg (by omega)]
      exact .inr (.inr ⟨by omega, by omega, rfl, by rw [e3]; show st.gen < _; omega⟩)
    · rw [if_pos e2, if_pos e2]
      exact .inr (.inl ⟨by omega, by omega, rfl, by rw [e3]; show st.gen < _; omega⟩)
/-- the places behind a turn -/
theorem Vt.Ok.laid {st : Vt} (h : st.Ok) {c : Chg} {X : List UInt8} (hX : X = plB st.q (some (st.gen + 1, c.on st.x))) :
    laidAt st.bytes st.next st.q X = (st.turned c).places ++ (formsX 1 st.gen 0 st.texts ++ List.replicate (64 * (st.m - st.used)) 0) := by
  have hq := h.qn
  unfold laidAt Vt.bytes Vt.places
  rcases h.next with e | e
  · have e1 : (st.turned c).p0 = some (st.gen + 1, c.on st.x) := if_pos e
    have e2 : (st.turned c).p1 = st.p1 := if_pos e
    rw [e1, e2, e, Nat.mul_zero, List.take_zero, List.nil_append, Nat.zero_add, hX, List.append_assoc, List.drop_left' (plB_length h.p0)]
    show _ = plB st.q _ ++ plB st.q _ ++ _
    rw [List.append_assoc]
  · have e1 : (st.turned c).p0 = st.p0 := if_neg (by omega)
    have e2 : (st.turned c).p1 = some (st.gen + 1, c.on st.x) := if_neg (by omega)
    rw [e1, e2, e, hX]
    show _ = plB st.q _ ++ plB st.q _ ++ _
    have e3 : ∀ C : List UInt8, (plB st.q st.p0 ++ (plB st.q st.p1 ++ C)).drop (64 * (st.q + st.q)) = C := fun C => by
      rw [← List.append_assoc]
      exact List.drop_left' (by rw [List.length_append, plB_length h.p0, plB_length h.p1]; omega)
    rw [List.append_assoc, List.take_left' (plB_length h.p0), e3, List.append_assoc]
/-- the journal of the next generation -/
theorem JouOk.turned {J : Jn} {st : Vt} (h : st.Ok) {c : Chg} (hc : c.Ok) (ht : st.turns c) {V : List UInt8} (hV : V = (st.turned c).places ++ (formsX 1 st.gen 0 st.texts ++ List.replicate (64 * (st.m - st.used)) 0)) (hr : RunP J st.n st.a st.m (st.gen + 1) V [] []) (hL : J.d.L = []) : JouOk J (st.turned c) := by
  refine ⟨⟨V, hr, ?_⟩, hL⟩
  rw [hV]
  exact List.take_left' (h.turned hc ht).places_length
/-- what a device shows behind the laying of the next checkpoint: no record of the next generation in the journal's part -/
theorem Vt.Ok.turn_part {st : Vt} (h : st.Ok) {c : Chg} (hc : c.Ok) (ht : st.turns c) {d : Dv} (hv : d.view = laidAt st.bytes st.next st.q (plB st.q (some (st.gen + 1, c.on st.x)))) :
    Scanned (st.gen + 1) (d.part st.a st.m) [] ∧ d.view = (st.turned c).places ++ (formsX 1 st.gen 0 st.texts ++ List.replicate (64 * (st.m - st.used)) 0) := by
  rw [h.laid rfl] at hv
  refine ⟨?_, hv⟩
  have e : d.part st.a st.m = formsX 1 st.gen 0 st.texts ++ List.replicate (64 * (st.m - st.used)) 0 := by
    have hpl : (st.turned c).places.length = 64 * st.a := (h.turned hc ht).places_length
    unfold Dv.part
    rw [hv, List.drop_left' hpl, List.take_of_length_le (by rw [h.rest_length]; exact Nat.le_refl _)]
  rw [e]
  exact scanned_other (by omega) h.forms
/-- a new device -/
def Vt.new (n : Nat) : Vt := ⟨n, 0, 0, none, none, [], []⟩
theorem Vt.new_ok {n : Nat} (h8 : 8 ≤ n) (h4 : n ≤ 4096) : (Vt.new n).Ok := ⟨h8, h4, Nat.zero_le _, trivial, trivial, fun c hc => (by cases hc), Nat.zero_le _, .inl ⟨rfl, rfl, rfl, rfl, rfl⟩⟩
theorem DevOk.new {n : Nat} (h8 : 8 ≤ n) (h4 : n ≤ 4096) : DevOk (Dv.new n) (Vt.new n) := by
  refine ⟨⟨by show (-1 : Int) < 0; omega, rfl⟩, rfl, rfl, ?_⟩
  have hq := (Vt.new_ok h8 h4).qn
  show List.replicate (n * 64) 0 = (List.replicate (64 * (Vt.new n).q) 0 ++ List.replicate (64 * (Vt.new n).q) 0) ++ ([] ++ List.replicate (64 * ((Vt.new n).m - 0)) 0)
  rw [List.nil_append, List.replicate_append_replicate, List.replicate_append_replicate]
  congr 1
  have : (Vt.new n).n = n := rfl
  omega
end Go.Proofs.Ytjekcaoonaniaaa
