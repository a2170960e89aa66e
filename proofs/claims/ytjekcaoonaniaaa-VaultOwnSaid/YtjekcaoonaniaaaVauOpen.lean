/-
  Contracts of vault.Open: of no device, and over a device without a fuse that shows a vault. Conditions: what each names.
-/
import Derived.Test.YtjekcaoonaniaaaVauOpc
namespace Go.Proofs.Ytjekcaoonaniaaa
open Go.ChangeShapes Go.WideShapes Go.ChangeAt Go.RowKit Go.Maps
set_option linter.unusedVariables false

theorem VOpen_nil (w : World) :
    Calls Try.prog 6 #[.pointer none] w fun e w' => e = .returned (.tuple #[.pointer none, .int .i64 1]) ∧ w = w' := by
  go_enter Try.func6, Try.ntmps6
  go_wp2
  go_ret2
  exact ⟨rfl, rfl⟩

/-- the checkpoint that counts, of the first places: its generation, its values, the place of the next one -/
def best1 (st : Vt) : Nat × Vals × Nat := match st.p0 with
  | none => (0, [], 0)
  | some (g, x) => (g, x, st.q)
def best2 (st : Vt) : Nat × Vals × Nat := match st.p1 with
  | none => best1 st
  | some (g, x) => if (best1 st).1 < g then (g, x, 0) else best1 st
def bestOf (st : Vt) : Nat → Nat × Vals × Nat
  | 0 => (0, [], 0)
  | 1 => best1 st
  | _ => best2 st
theorem Vt.Ok.best {st : Vt} (h : st.Ok) : bestOf st 2 = (st.gen, st.base, st.next) := by
  show best2 st = _
  unfold best2 best1
  rcases h.cur with ⟨e1, e2, e3, e4, e5⟩ | ⟨e1, e2, e3, e4⟩ | ⟨e1, e2, e3, e4⟩
  · simp only [e3, e4, e1, e2, e5]
  · simp only [e3]
    cases hp : st.p1 with
    | none => simp only [e2]
    | some p =>
      obtain ⟨g, x⟩ := p
      rw [hp] at e4
      simp only
      rw [if_neg (by have : g < st.gen := e4; omega), e2]
  · simp only [e3]
    cases hp : st.p0 with
    | none => simp only; rw [if_pos (by omega), e2]
    | some p =>
      obtain ⟨g, x⟩ := p
      rw [hp] at e4
      simp only
      rw [if_pos (by have : g < st.gen := e4; omega), e2]
/-- where Open's loop stands -/
def OpenAt (w : World) (B v g s : Nat) (r : Option Nat) (d : Dv) (b : Nat × Vals × Nat) (wr : World) : Prop :=
  ∃ m, wr.heap[v]? = some (.cells (ocells g m b.1 b.2.2) 48 (0, 0)) ∧ IsD wr B g s r d ∧ ValsAt wr B m b.2.1 ∧ w.heap.size ≤ m ∧ Below w.heap.size w wr
theorem OpenAt.below {w wr w' : World} {B v g s : Nat} {r : Option Nat} {d : Dv} {b : Nat × Vals × Nat} (h : OpenAt w B v g s r d b wr) (hb : Below wr.heap.size wr w') : OpenAt w B v g s r d b w' := by
  obtain ⟨m, h1, h2, h3, h4, h5⟩ := h
  exact ⟨m, by rw [hb.block v (Array.getElem?_eq_some_iff.1 h1).1]; exact h1, h2.below hb, h3.below hb, h4, h5.trans (hb.mono h5.size)⟩
/-- a greater checkpoint is taken -/
theorem OpenAt.take {w wr : World} {B v g s : Nat} {r : Option Nat} {d : Dv} {b : Nat × Vals × Nat} (h : OpenAt w B v g s r d b wr) (hv : w.heap.size ≤ v) {m2 gen2 next2 : Nat} {x2 : Vals} (hx : ValsAt wr B m2 x2) (hm : w.heap.size ≤ m2) :
    OpenAt w B v g s r d (gen2, x2, next2) (((wr.setCell ⟨v, 3, none⟩ (.int .i64 (gen2 : Int))).setCell ⟨v, 2, none⟩ (.map (some m2))).setCell ⟨v, 4, none⟩ (.int .i64 (next2 : Int))) := by
  obtain ⟨m, h1, h2, h3, h4, h5⟩ := h
  have t := ((Turned.refl (fun k => k = v) wr).setCell (b := ⟨v, 3, none⟩) (fun _ => rfl) (.int .i64 (gen2 : Int))).setCell (b := ⟨v, 2, none⟩) (fun _ => rfl) (.map (some m2)) |>.setCell (b := ⟨v, 4, none⟩) (fun _ => rfl) (.int .i64 (next2 : Int))
  have hne : ∀ k, FootD g s r k → ¬ k = v := fun k hk e => by
    obtain ⟨cs, T, fr, hb, _, hne⟩ := h2.kinds k hk
    rw [e, h1] at hb
    injection hb with hb
    injection hb with _ e2
    exact hne e2.symm
  refine ⟨m2, ?_, h2.turned t (hne g (.inl rfl)) (hne s (.inr (.inl rfl))) (fun k hk => hne k (.inr (.inr hk))), hx.turned t fun k hk _ => by rw [hk]; exact ⟨_, _, _, h1, by decide⟩, hm, h5.trans (t.below (fun k hk => by rw [hk]; exact hv) h5.size)⟩
  rw [row_set (row_set (row_set h1 _ _) _ _)]
  rfl

theorem ix0 (x y : Int) (W : World) : (Instr.index 50 (.agg #[.int .i64 x, .int .i64 y]) (.int .i64 0)).run Try.prog W = .ok (.int .i64 x) W := by
  simp [Instr.index, run_underlying Try.underlying50, asIntOf, part, Try.sizeOf3, Try.isAgg3, go_sem]
theorem ix1 (x y : Int) (W : World) : (Instr.index 50 (.agg #[.int .i64 x, .int .i64 y]) (.int .i64 1)).run Try.prog W = .ok (.int .i64 y) W := by
  simp [Instr.index, run_underlying Try.underlying50, asIntOf, part, Try.sizeOf3, Try.isAgg3, go_sem]
/-- the cells of a vault that is being opened, as its loop reads and writes them -/
theorem OpenAt.cells {w wr : World} {B v g s : Nat} {r : Option Nat} {d : Dv} {b : Nat × Vals × Nat} (h : OpenAt w B v g s r d b wr) :
    wr.cell? ⟨v, 3, none⟩ = some (.int .i64 (b.1 : Int)) ∧ (∃ m, wr.cell? ⟨v, 2, none⟩ = some (.map (some m))) ∧ wr.cell? ⟨v, 4, none⟩ = some (.int .i64 (b.2.2 : Int)) ∧ wr.frozen? ⟨v, 3, none⟩ = false ∧ wr.frozen? ⟨v, 2, none⟩ = false ∧ wr.frozen? ⟨v, 4, none⟩ = false := by
  obtain ⟨m, h1, _⟩ := h
  exact ⟨row_cell h1 3, ⟨m, row_cell h1 2⟩, row_cell h1 4, row_frozen h1 3, row_frozen h1 2, row_frozen h1 4⟩

set_option maxRecDepth 100000 in
set_option maxHeartbeats 4000000 in
theorem VOpen_any (B g s : Nat) (r : Option Nat) (d : Dv) (st : Vt) (w : World) (h : IsD w B g s r d) (hdo : DevOk d st) (ho : st.Ok) :
    Calls Try.prog 6 #[.pointer (some ⟨g, 0, none⟩)] w fun e w' => ∃ v, e = .returned (.tuple #[.pointer (some ⟨v, 0, none⟩), .int .i64 0]) ∧ w.heap.size ≤ v ∧ IsV w' B v g s st ∧ Turned (FootD g s r) w w' := by
  have H := Lib.hid h
  have hq := ho.qn
  have hn4 := ho.n4; have hn8 := ho.n8
  have hg := ho.g
  have hlen := Len_any B g s r d w h
  rw [hdo.n] at hlen
  have Hlen := Lib.hid hlen
  obtain ⟨Q, hQ⟩ : ∃ Q, st.q = Q := ⟨_, rfl⟩
  have HQ := Lib.hid hQ
  have hdq : d.n / 4 = Q := by rw [hdo.n]; exact hQ
  have Hquart := Lib.hid (fun w' (hd : IsD w' B g s r d) => quarter_any B g s r d w' hd)
  rw [hdq] at Hquart
  have Hcp0 := Lib.hid (fun w' (hd : IsD w' B g s r d) => checkpointAt_any B g s r d Q 0 st.p0 w' hd hdo.up hdo.L hdq (by omega) (by omega) (by have := ho.p0; rwa [hQ] at this) (by have := hdo.part0 ho; rwa [hQ] at this))
  have Hcp1 := Lib.hid (fun w' (hd : IsD w' B g s r d) => checkpointAt_any B g s r d Q Q st.p1 w' hd hdo.up hdo.L hdq (by omega) (by omega) (by have := ho.p1; rwa [hQ] at this) (by have := hdo.part1 ho; rwa [hQ] at this))
  have Hoth0 := Lib.hid (fun w' (hd : IsD w' B g s r d) => otherPlace_any B g s r d 0 w' hd (Nat.zero_le _))
  have Hoth1 := Lib.hid (fun w' (hd : IsD w' B g s r d) => otherPlace_any B g s r d Q w' hd (by omega))
  rw [hdq] at Hoth0 Hoth1
  have hBw : B ≤ w.heap.size := by have := h.lt; omega
  have Hho := Lib.hid ho; have Hdo := Lib.hid hdo
  have hmm := @run_makeMap Try.prog
  obtain ⟨w0, hw0⟩ : ∃ w0, w.alloc (.map #[] 0) = w0 := ⟨_, rfl⟩
  have hb0 : Below w.heap.size w w0 := by rw [← hw0]; exact (Below.refl _ w).alloc (Nat.le_refl _) _
  have hs0 : w0.heap.size = w.heap.size + 1 := by rw [← hw0]; simp
  have hv0 : ValsAt w0 B w.heap.size [] := by rw [← hw0]; exact ValsAt.made w hBw
  obtain ⟨w1, hw1⟩ : ∃ w1, w0.alloc (.cells #[.pointer (some ⟨g, 0, none⟩), .pointer none, .map (some w.heap.size), .int .i64 0, .int .i64 0, .bool false] 48) = w1 := ⟨_, rfl⟩
  have hb1 : Below w0.heap.size w0 w1 := by rw [← hw1]; exact (Below.refl _ w0).alloc (Nat.le_refl _) _
  obtain ⟨v, hv⟩ : ∃ v, w0.heap.size = v := ⟨_, rfl⟩
  have hh1 : w1.heap[v]? = some (.cells (ocells g w.heap.size 0 0) 48 (0, 0)) := by rw [← hw1, ← hv]; exact heap_alloc_new w0 _
  have hat : OpenAt w B v g s r d (bestOf st 0) w1 := ⟨w.heap.size, hh1, (h.below hb0).below hb1, hv0.below hb1, Nat.le_refl _, hb0.trans (hb1.mono hb0.size)⟩
  have Hat := Lib.hid hat
  have hwv : w.heap.size ≤ v := by omega
  clear h hdo ho hlen hQ hb0 hs0 hv0 hb1 hh1 hat
  go_enter Try.func6, Try.ntmps6
  go_wp2_with fail
  refine Hlen.out.mono ?_
  rintro e w2 ⟨rfl, rfl⟩
  go_wp2_with fail
  refine (Hquart.out w1 Hat.out.choose_spec.2.1).mono ?_
  rintro e w2 ⟨rfl, rfl⟩
  clear hw0 hw1
  go_wp2
  go_loopw [25] (fun iv wr => ∃ i : Nat, iv = .int .i64 (i : Int) ∧ i ≤ 2 ∧ OpenAt w B v g s r d (bestOf st i) wr) (fun iv _ => 2 - (intOf iv).toNat)
  case atStart => exact ⟨0, rfl, by omega, Hat.out⟩
  case round =>
    obtain ⟨i, rfl, hi2, hat⟩ := hrel
    have Hat2 := Lib.hid hat
    clear hat
    have hd := Hat2.out.choose_spec.2.1
    by_cases hi0 : i = 0
    · subst hi0
      have hc := Hcp0.out wr hd
      have hix := ix0 0 (Q : Int) wr
      cases hp : st.p0 with
      | none =>
        have hb : bestOf st 1 = bestOf st 0 := by show best1 st = _; unfold best1; rw [hp]; rfl
        have Hb := Lib.hid hb
        rw [hp] at hc
        have Hc := Lib.hid hc
        clear hc hb
        go_wp2_with fail
        refine Hc.out.mono ?_
        rintro e w3 ⟨rfl, hb3⟩
        have Hat3 := Lib.hid (Hat2.out.below hb3)
        obtain ⟨c3, _, _, _, _, _⟩ := Hat3.out.cells
        rw [show (bestOf st 0).1 = 0 from rfl] at c3
        clear hb3
        go_wp2
        go_roundw
        case rel => exact ⟨1, by go_num, by omega, by rw [Hb.out]; exact Hat3.out⟩
        case measure => simp [intOf]
      | some p =>
        obtain ⟨gx, x⟩ := p
        have hb : bestOf st 1 = (gx, x, Q) := by show best1 st = _; unfold best1; rw [hp]; simp only [HQ.out]
        have Hb := Lib.hid hb
        have hgx : 1 ≤ gx ∧ gx ≤ 1099511627776 := by have := Hho.out.p0; rw [hp] at this; exact ⟨this.2.1, this.2.2.1⟩
        rw [hp] at hc
        have Hc := Lib.hid hc
        have Hot := Lib.hid (Hoth0.out)
        clear hc hb
        have hgd : decide ((0 : Int) < (gx : Int)) = true := decide_eq_true (by omega)
        go_wp2_with fail
        refine Hc.out.mono ?_
        rintro e w3 ⟨m3, rfl, hv3, hb3⟩
        have Hat3 := Lib.hid (Hat2.out.below hb3)
        obtain ⟨c3, ⟨mo, c2⟩, c4, z3, z2, z4⟩ := Hat3.out.cells
        rw [show (bestOf st 0).1 = 0 from rfl] at c3
        have Hv3 := Lib.hid hv3
        have Hwr := Lib.hid (show w.heap.size ≤ wr.heap.size from Hat2.out.choose_spec.2.2.2.2.size)
        have Hot3 := Lib.hid (Hoth0.out w3 Hat3.out.choose_spec.2.1)
        clear hb3 hv3 hix
        go_wp2_with fail
        refine Hot3.out.mono ?_
        rintro e w4 ⟨rfl, rfl⟩
        rw [Nat.sub_zero]
        go_wp2
        go_roundw
        case rel =>
          refine ⟨1, by go_num, by omega, ?_⟩
          rw [Hb.out]
          exact Hat3.out.take hwv (Hv3.out.base (Nat.le_trans hBw Hwr.out)) (Nat.le_trans Hwr.out Hv3.out.lt.1)
        case measure => simp [intOf]
    · by_cases hi1 : i = 1
      · subst hi1
        have hc := Hcp1.out wr hd
        have hix := ix1 0 (Q : Int) wr
        obtain ⟨b1, hb1⟩ : ∃ b1, (bestOf st 1).1 = b1 := ⟨_, rfl⟩
        have Hb1 := Lib.hid hb1
        cases hp : st.p1 with
        | none =>
          have hb : bestOf st 2 = bestOf st 1 := by show best2 st = best1 st; unfold best2; rw [hp]
          have Hb := Lib.hid hb
          rw [hp] at hc
          have Hc := Lib.hid hc
          have hgd : decide ((b1 : Int) < 0) = false := decide_eq_false (by omega)
          clear hc hb hb1
          go_wp2_with fail
          refine Hc.out.mono ?_
          rintro e w3 ⟨rfl, hb3⟩
          have Hat3 := Lib.hid (Hat2.out.below hb3)
          obtain ⟨c3, _, _, _, _, _⟩ := Hat3.out.cells
          rw [Hb1.out] at c3
          clear hb3
          go_wp2
          go_roundw
          case rel => exact ⟨2, by go_num, by omega, by rw [Hb.out]; exact Hat3.out⟩
          case measure => simp [intOf]
        | some p =>
          obtain ⟨gx, x⟩ := p
          have hgx : 1 ≤ gx ∧ gx ≤ 1099511627776 := by have := Hho.out.p1; rw [hp] at this; exact ⟨this.2.1, this.2.2.1⟩
          have hb : bestOf st 2 = if b1 < gx then (gx, x, 0) else bestOf st 1 := by show best2 st = _; unfold best2; rw [hp, ← hb1]; rfl
          rw [hp] at hc
          have Hc := Lib.hid hc
          by_cases hlt : b1 < gx
          · rw [if_pos hlt] at hb
            have Hb := Lib.hid hb
            have hgd : decide ((b1 : Int) < (gx : Int)) = true := decide_eq_true (by omega)
            have hgdn : decide (b1 < gx) = true := decide_eq_true hlt
            clear hc hb hb1
            go_wp2_with fail
            refine Hc.out.mono ?_
            rintro e w3 ⟨m3, rfl, hv3, hb3⟩
            have Hat3 := Lib.hid (Hat2.out.below hb3)
            obtain ⟨c3, ⟨mo, c2⟩, c4, z3, z2, z4⟩ := Hat3.out.cells
            rw [Hb1.out] at c3
            have Hv3 := Lib.hid hv3
            have Hwr := Lib.hid (show w.heap.size ≤ wr.heap.size from Hat2.out.choose_spec.2.2.2.2.size)
            have Hot3 := Lib.hid (Hoth1.out w3 Hat3.out.choose_spec.2.1)
            clear hb3 hv3 hix
            go_wp2_with fail
            refine Hot3.out.mono ?_
            rw [Nat.sub_self]
            rintro e w4 ⟨rfl, rfl⟩
            go_wp2
            go_roundw
            case rel =>
              refine ⟨2, by go_num, by omega, ?_⟩
              rw [Hb.out]
              exact Hat3.out.take hwv (Hv3.out.base (Nat.le_trans hBw Hwr.out)) (Nat.le_trans Hwr.out Hv3.out.lt.1)
            case measure => simp [intOf]
          · rw [if_neg hlt] at hb
            have Hb := Lib.hid hb
            have hgd : decide ((b1 : Int) < (gx : Int)) = false := decide_eq_false (by omega)
            have hgdn : decide (b1 < gx) = false := decide_eq_false hlt
            clear hc hb hb1
            go_wp2_with fail
            refine Hc.out.mono ?_
            rintro e w3 ⟨m3, rfl, hv3, hb3⟩
            have Hat3 := Lib.hid (Hat2.out.below hb3)
            obtain ⟨c3, _, _, _, _, _⟩ := Hat3.out.cells
            rw [Hb1.out] at c3
            clear hb3 hv3
            go_wp2
            go_roundw
            case rel => exact ⟨2, by go_num, by omega, by rw [Hb.out]; exact Hat3.out⟩
            case measure => simp [intOf]
      · obtain rfl : i = 2 := by omega
        obtain ⟨m, h1, h2, h3, h4, h5⟩ := Hat2.out
        rw [Hho.out.best] at h1 h3
        have hop : OpV wr B v g s r d m st st.base := ⟨by omega, h1, h2, Hdo.out, h3⟩
        have Hoc := Lib.hid (openChanges_any B v g s r d m st wr hop Hho.out)
        have H4 := Lib.hid h4; have H5 := Lib.hid h5
        clear h1 h2 h3 h4 h5 hop hd
        go_wp2_with fail
        refine Hoc.out.mono ?_
        rintro e w3 ⟨rfl, hiv, ht⟩
        have Hiv := Lib.hid hiv; have Ht := Lib.hid ht
        clear hiv ht
        go_wp2
        go_ret2
        refine ⟨v, rfl, hwv, Hiv.out, Turned.trans (Turned.of_below (p := FootD g s r) H5.out) Ht.out (fun _ e => e) fun k hk e => ?_⟩
        rcases e with e | e | e
        · omega
        · have := H4.out; omega
        · exact e
end Go.Proofs.Ytjekcaoonaniaaa
