/-
  Contract of (*heap.Heap).sink. Conditions: a heap in memory that is one but for a hole; what stands above the hole isn't behind e.
-/
import Derived.Test.YtbfjakchgmdldaaGreatHomSink
namespace Go.Proofs.YtbfjakchgmdldaaGreat
open Go.ChangeShapes Go.WideShapes Go.ChangeAt Go.RowKit Go.Maps Go.Sort
set_option linter.unusedVariables false

/-- what sink hands back: the place that is left, where e makes a heap -/
def SinkRet (B : Nat) (h : Home) (m : Nat) (q : Option Nat) (R : Ent → Prop) (n : Nat) (ks : List Int) (e : Ent) (w : World) (en : Ending) (w' : World) : Prop :=
  ∃ (p : Nat) (t : List Ent) (f : Int → Int), en = .returned (.int .i64 (p : Int)) ∧ IsH w' B h q (some m) t ks f ∧ Sifts R n ks p t f ∧ HeapOk (t.set p e) ∧ Turned (Foot h q (some m)) w w'
theorem Sifts.end_ {R : Ent → Prop} {n p : Nat} {ks : List Int} {t : List Ent} {f : Int → Int} (S : Sifts R n ks p t f) {e : Ent} (ha : AboveOk p t e) (hl : t.length ≤ 2 * p + 1) : HeapOk (t.set p e) :=
  S.hole.done ha fun j y hj hp hy => by
    have := (List.getElem?_eq_some_iff.1 hy).1
    omega
theorem Sifts.stop {R : Ent → Prop} {n p j : Nat} {ks : List Int} {t : List Ent} {f : Int → Int} (S : Sifts R n ks p t f) {e : Ent} (ha : AboveOk p t e) (hj : FirstBelow p t j) {y : Ent} (hy : t[j]? = some y) (h : ¬ ahead y e) : HeapOk (t.set p e) := by
  obtain ⟨_, _, z, hz, hall⟩ := hj
  rw [hy] at hz
  injection hz with hz
  subst hz
  exact S.hole.done ha fun i x hi hp hx => le_trans_E h (hall i x hi hp hx)

attribute [local irreducible] wpQuiet
set_option maxRecDepth 100000 in
set_option maxHeartbeats 4000000 in
theorem sink_any (B : Nat) (h : Home) (m : Nat) (q : Option Nat) (R : Ent → Prop) (n : Nat) (ks : List Int) (p0 : Nat) (t0 : List Ent) (f0 : Int → Int) (e : Ent) (w : World) (H : IsH w B h q (some m) t0 ks f0) (S : Sifts R n ks p0 t0 f0) (hab : AboveOk p0 t0 e) (hn : n ≤ 100000) (hks : ks.length ≤ 1000000) (he : Fits e) (hR : ∀ r, R r → Fits r) :
    Calls Tryz.prog 63 #[.pointer (some ⟨h.b, h.o, none⟩), .int .i64 (p0 : Int), .agg #[.int .i64 e.1, .int .i64 e.2]] w (SinkRet B h m q R n ks e w) := by
  have hsp := fun k hk => (H.spares (k := k) hk).2.1
  have Hsp := Lib.hid hsp
  clear hsp
  obtain ⟨W1, hW1⟩ : ∃ W1, w.alloc (.cells #[.int .i64 e.1, .int .i64 e.2] 88) = W1 := ⟨_, rfl⟩
  have hb1 : Below w.heap.size w W1 := by rw [← hW1]; exact (Below.refl _ _).alloc (Nat.le_refl _) _
  have x0 : W1.cell? ⟨w.heap.size, 0, none⟩ = some (.int .i64 e.1) := by rw [← hW1]; exact (new_two _ _ _ _).1
  have x1 : W1.cell? ⟨w.heap.size, 1, none⟩ = some (.int .i64 e.2) := by rw [← hW1]; exact (new_two _ _ _ _).2
  have HH := Lib.hid (H.below hb1); have HS := Lib.hid S; have Hb1 := Lib.hid hb1; have He := Lib.hid he; have Hks := Lib.hid hks; have HR := Lib.hid hR; have Hab := Lib.hid hab
  have Hx := Lib.hid (And.intro x0 x1)
  have hp0 := S.lt
  have mixed : Tryz.prog.follows .mixedOrders = true := mixed_is
  clear H S hb1 he hks hR x0 x1 hab
  go_enter Tryz.func63, Tryz.ntmps63
  go_wp2
  clear hW1
  go_loopw [1] (fun pv wr => ∃ (p : Nat) (t : List Ent) (f : Int → Int), pv = .int .i64 (p : Int) ∧ p < n ∧ IsH wr B h q (some m) t ks f ∧ Sifts R n ks p t f ∧ AboveOk p t e ∧ Turned (Foot h q (some m)) w wr ∧ (wr.cell? ⟨w.heap.size, 0, none⟩ = some (.int .i64 e.1) ∧ wr.cell? ⟨w.heap.size, 1, none⟩ = some (.int .i64 e.2))) (fun pv _ => n - (intOf pv).toNat)
  case atStart => exact ⟨p0, t0, f0, rfl, hp0, HH.out, HS.out, Hab.out, .of_below Hb1.out, Hx.out⟩
  case round =>
    obtain ⟨p, t, f, rfl, hpn, H1, S1, A1, T1, hx⟩ := hrel
    have HH1 := Lib.hid H1; have HS1 := Lib.hid S1; have HA1 := Lib.hid A1; have HT1 := Lib.hid T1; have Hx1 := Lib.hid hx
    have Hlen := Lib.hid S1.len
    clear H1 S1 A1 T1 hx hp0
    go_wp2_with fail
    refine (firstBelow_any B h p q (some m) t ks f wr HH1.out (by have := Hlen.out; omega) (by have := Hlen.out; omega)).mono ?_
    rintro en W2 ⟨v, ok, rfl, hfb, hb2⟩
    have Hb2 := Lib.hid hb2
    clear hb2
    rcases hfb with ⟨rfl, hl⟩ | ⟨rfl, j, rfl, hj⟩
    · have Hl := Lib.hid hl
      clear hl
      have hd : decide (true = true) = true := rfl
      go_wp2
      go_quiet_grown (fail)
      go_wp2
      go_ret
      unfold SinkRet
      exact ⟨p, t, f, rfl, HH1.out.below (Hb2.out.trans ((below_ofgrow _ _ _).mono Hb2.out.size)), HS1.out, HS1.out.end_ HA1.out Hl.out, HT1.out.trans (.of_below (Hb2.out.trans ((below_ofgrow _ _ _).mono Hb2.out.size))) (fun _ e => e) (fun _ _ e => e)⟩
    · obtain ⟨y, hy⟩ : ∃ y, t[j]? = some y := by obtain ⟨_, _, y, hy, _⟩ := hj; exact ⟨y, hy⟩
      have hjp : p < j := by obtain ⟨h1, h2, _⟩ := hj; omega
      have hjl := (List.getElem?_eq_some_iff.1 hy).1
      obtain ⟨g, c, rfl, hgs, hlc, hcm, hrow, hown, c0, c1⟩ := (HH1.out.below Hb2.out).get hy
      have x0 : W2.cell? ⟨w.heap.size, 0, none⟩ = some (.int .i64 e.1) := (Hb2.out.cell (block_lt_of_cell Hx1.out.1)).trans Hx1.out.1
      have x1 : W2.cell? ⟨w.heap.size, 1, none⟩ = some (.int .i64 e.2) := (Hb2.out.cell (block_lt_of_cell Hx1.out.2)).trans Hx1.out.2
      have k0 : ∀ n os, (grow (W2.drewN n) os).cell? ⟨h.b, h.o, none⟩ = some (.slice (some ⟨g, 0, none⟩) t.length c) := cell_grown (Array.getElem?_eq_some_iff.1 hrow).1 (h.cell0 hrow)
      have k1 : ∀ n os, (grow (W2.drewN n) os).cell? ⟨g, j * 2, none⟩ = some (.int .i64 y.1) := cell_grown hgs c0
      have k2 : ∀ n os, (grow (W2.drewN n) os).cell? ⟨g, j * 2 + 1, none⟩ = some (.int .i64 y.2) := cell_grown hgs c1
      have k3 : ∀ n os, (grow (W2.drewN n) os).cell? ⟨w.heap.size, 0, none⟩ = some (.int .i64 e.1) := cell_grown (block_lt_of_cell x0) x0
      have k4 : ∀ n os, (grow (W2.drewN n) os).cell? ⟨w.heap.size, 1, none⟩ = some (.int .i64 e.2) := cell_grown (block_lt_of_cell x1) x1
      have b0 : (0 : Int) ≤ (j : Int) := by omega
      have b1 : (j : Int) < (t.length : Int) := by omega
      obtain ⟨r, hr⟩ : ∃ r, cmpE e y = r := ⟨_, rfl⟩
      have hcmp : ∀ W, Calls Tryz.prog 71 #[.agg #[.int .i64 e.1, .int .i64 e.2], .agg #[.int .i64 y.1, .int .i64 y.2]] W fun en w' => en = .returned (.int .i64 r) ∧ ∃ q os', w' = grow (W.drewN q) os' := fun W => by rw [← hr]; exact compare_any e y W
      have hneg := cmpE_gt e y
      rw [hr] at hneg
      have Hcmp := Lib.hid hcmp; have Hneg := Lib.hid hneg; have Hy := Lib.hid hy; have Hj := Lib.hid hj
      clear hr hcmp hneg hy hj hrow hown c0 c1 x0 x1
      by_cases hlt : r ≤ 0
      · have hd : decide (r ≤ 0) = true := decide_eq_true hlt
        have Hlt := Lib.hid hlt
        clear hlt
        go_wp2
        go_quiet_grown (first | (go_at_call 71; refine Calls.grown_of (Hcmp.out _)))
        go_wp2
        go_ret
        unfold SinkRet
        exact ⟨p, t, f, rfl, HH1.out.below (Hb2.out.trans ((below_ofgrow _ _ _).mono Hb2.out.size)), HS1.out, HS1.out.stop HA1.out Hj.out Hy.out (fun e => by have h1 := Hneg.out.2 e; have h2 := Hlt.out; omega), HT1.out.trans (.of_below (Hb2.out.trans ((below_ofgrow _ _ _).mono Hb2.out.size))) (fun _ e => e) (fun _ _ e => e)⟩
      · have hd : decide (r ≤ 0) = false := decide_eq_false hlt
        have Hlt := Lib.hid hlt
        clear hlt
        go_wp2
        go_quiet_grown (first | (go_at_call 71; refine Calls.grown_of (Hcmp.out _)))
        obtain ⟨W3, hW3⟩ : ∃ W3, grow (W2.drewN nq) osq = W3 := ⟨_, rfl⟩
        dsimp only
        rw [hW3]
        have hb3 : Below wr.heap.size wr W3 := by rw [← hW3]; exact Hb2.out.trans ((below_ofgrow _ _ _).mono Hb2.out.size)
        have Hb3 := Lib.hid hb3
        have y0 : W3.cell? ⟨h.b, h.o, none⟩ = some (.slice (some ⟨g, 0, none⟩) t.length c) := by rw [← hW3]; exact k0 _ _
        have y1 : W3.cell? ⟨g, j * 2, none⟩ = some (.int .i64 y.1) := by rw [← hW3]; exact k1 _ _
        have y2 : W3.cell? ⟨g, j * 2 + 1, none⟩ = some (.int .i64 y.2) := by rw [← hW3]; exact k2 _ _
        have Hy2 : Hid _ := Lib.hid (And.intro ((k3 nq osq)) (k4 nq osq))
        simp only [hW3] at Hy2
        clear hW3 hb3 k0 k1 k2 k3 k4
        go_wp2_with (go_at_call 62; refine (lay_any B h p m (some g) t ks f y W3 (HH1.out.below Hb3.out) (by have := Hlen.out; omega) Hks.out (entFits HR.out HS1.out (Nat.ne_of_gt hjp) Hy.out)).mono ?_; rintro en W4 ⟨rfl, h3, t3⟩; have HH3 := Lib.hid h3; have HT3 := Lib.hid t3; clear h3 t3 y0 y1 y2)
        go_roundw
        case rel =>
          have hbe : ahead y e := Hneg.out.1 (by have h2 := Hlt.out; omega)
          have hch := Hj.out
          obtain ⟨c1, c2, y', hy', hall⟩ := hch
          rw [Hy.out] at hy'
          injection hy' with hy'
          subst hy'
          have hmv := HS1.out.moved (Nat.ne_of_gt hjp) Hy.out (HS1.out.hole.down c1 c2 Hy.out hall)
          refine ⟨j, t.set p y, upd f y.1 (p : Int), rfl, by have := Hlen.out; omega, ?_, hmv.1, AboveOk.down (by have := Hlen.out; omega) c2 hbe, ?_, ?_⟩
          · have := HH3.out; rwa [hmv.2] at this
          · exact (HT1.out.trans (.of_below Hb3.out) (fun _ e => e) (fun _ _ e => e)).trans HT3.out (fun _ e => e) (fun _ _ e => e)
          · have hno : ¬ Foot h (some g) (some m) w.heap.size := fun e => Nat.lt_irrefl _ (Hsp.out _ e)
            exact ⟨HT3.out.cell Hy2.out.1 hno, HT3.out.cell Hy2.out.2 hno⟩
        case measure => have := Hlen.out; simp [intOf]; omega
end Go.Proofs.YtbfjakchgmdldaaGreat
