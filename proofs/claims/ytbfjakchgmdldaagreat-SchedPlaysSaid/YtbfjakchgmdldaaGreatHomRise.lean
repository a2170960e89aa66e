/-
  Contract of (*heap.Heap).rise. Conditions: a heap in memory that is one but for a hole.
-/
import Derived.Test.YtbfjakchgmdldaaGreatHomLay
import Derived.Shelf.SlSortCmp.QuietGrown
import Derived.Deep.LoopGhost
namespace Go.Proofs.YtbfjakchgmdldaaGreat
open Go.ChangeShapes Go.WideShapes Go.ChangeAt Go.RowKit Go.Maps Go.Sort
set_option linter.unusedVariables false

theorem putK_mem {ks : List Int} (h : RisingK ks) {k : Int} (hk : k ∈ ks) : putK ks k = ks :=
  List.Perm.eq_of_pairwise (le := fun a b : Int => a < b) (fun a b _ _ h1 h2 => by omega) (h.put k) h ((List.perm_ext_iff_of_nodup (h.put k).nodup h.nodup).2 fun j => by rw [mem_putK]; exact ⟨fun e => e.elim (fun e => e ▸ hk) id, .inr⟩)
/-- on the way: a hole at p, the others R, each where the map tells -/
structure Sifts (R : Ent → Prop) (n : Nat) (ks : List Int) (p : Nat) (t : List Ent) (f : Int → Int) : Prop where
  hole : Hole p t
  len : t.length = n
  lt : p < n
  off : ∀ r, Off p t r ↔ R r
  places : PlacesOff p t ks f
  rise : RisingK ks
theorem Sifts.moved {R : Ent → Prop} {n p q : Nat} {ks : List Int} {t : List Ent} {f : Int → Int} (S : Sifts R n ks p t f) {b : Ent} (hpq : q ≠ p) (hb : t[q]? = some b) (hh : Hole q (t.set p b)) : Sifts R n ks q (t.set p b) (upd f b.1 (p : Int)) ∧ putK ks b.1 = ks := by
  have hq := (List.getElem?_eq_some_iff.1 hb).1
  have hp := S.lt
  have hl := S.len
  exact ⟨⟨hh, by rw [List.length_set]; exact hl, by omega, fun r => by rw [Off.moved hpq hb (by omega)]; exact S.off r, S.places.moved hpq hb, S.rise⟩, putK_mem S.rise (S.places q b hpq hb).1⟩
theorem below_ofgrow (w : World) (n : Nat) (os : Array Obj) : Below w.heap.size w (grow (w.drewN n) os) :=
  ⟨rfl, rfl, rfl, by rw [size_grow]; exact Nat.le_add_right _ _, fun k hk => by
    show ((w.drewN n).heap ++ os)[k]? = _
    rw [Array.getElem?_append_left (by exact hk)]; rfl⟩
theorem half_of (p : Nat) (h : 0 < p) : ((p : Int) - 1) / 2 = (((p - 1) / 2 : Nat) : Int) := by omega
theorem entFits {R : Ent → Prop} (h : ∀ r, R r → Fits r) {p : Nat} {t : List Ent} {n : Nat} {ks : List Int} {f : Int → Int} (S : Sifts R n ks p t f) {q : Nat} {b : Ent} (hq : q ≠ p) (hb : t[q]? = some b) : Fits b := h b ((S.off b).1 ⟨q, hq, hb⟩)

/-- what rise hands back: the place that is left, nothing above it behind e -/
def RiseRet (B : Nat) (h : Home) (m : Nat) (q : Option Nat) (R : Ent → Prop) (n : Nat) (ks : List Int) (e : Ent) (w : World) (en : Ending) (w' : World) : Prop :=
  ∃ (p : Nat) (t : List Ent) (f : Int → Int), en = .returned (.int .i64 (p : Int)) ∧ IsH w' B h q (some m) t ks f ∧ Sifts R n ks p t f ∧ AboveOk p t e ∧ Turned (Foot h q (some m)) w w'
theorem mixed_is : Tryz.prog.follows .mixedOrders = true := by kernel_rfl
set_option maxRecDepth 100000 in
set_option maxHeartbeats 2000000 in
theorem rise_any (B : Nat) (h : Home) (m : Nat) (q : Option Nat) (R : Ent → Prop) (n : Nat) (ks : List Int) (p0 : Nat) (t0 : List Ent) (f0 : Int → Int) (e : Ent) (w : World) (H : IsH w B h q (some m) t0 ks f0) (S : Sifts R n ks p0 t0 f0) (hn : n ≤ 100000) (hks : ks.length ≤ 1000000) (he : Fits e) (hR : ∀ r, R r → Fits r) :
    Calls Tryz.prog 64 #[.pointer (some ⟨h.b, h.o, none⟩), .int .i64 (p0 : Int), .agg #[.int .i64 e.1, .int .i64 e.2]] w (RiseRet B h m q R n ks e w) := by
  have hsp := fun k hk => (H.spares (k := k) hk).2.1
  have Hsp := Lib.hid hsp
  clear hsp
  obtain ⟨W1, hW1⟩ : ∃ W1, w.alloc (.cells #[.int .i64 e.1, .int .i64 e.2] 88) = W1 := ⟨_, rfl⟩
  have hb1 : Below w.heap.size w W1 := by rw [← hW1]; exact (Below.refl _ _).alloc (Nat.le_refl _) _
  have x0 : W1.cell? ⟨w.heap.size, 0, none⟩ = some (.int .i64 e.1) := by rw [← hW1]; exact (new_two _ _ _ _).1
  have x1 : W1.cell? ⟨w.heap.size, 1, none⟩ = some (.int .i64 e.2) := by rw [← hW1]; exact (new_two _ _ _ _).2
  have HH := Lib.hid (H.below hb1); have HS := Lib.hid S; have Hb1 := Lib.hid hb1; have He := Lib.hid he; have Hks := Lib.hid hks; have HR := Lib.hid hR
  have Hx := Lib.hid (And.intro x0 x1)
  have hp0 := S.lt
  clear H S hb1 he hks hR x0 x1
  go_enter Tryz.func64, Tryz.ntmps64
  go_wp2
  clear hW1
  go_loopw [1] (fun pv wr => ∃ (p : Nat) (t : List Ent) (f : Int → Int), pv = .int .i64 (p : Int) ∧ p < n ∧ IsH wr B h q (some m) t ks f ∧ Sifts R n ks p t f ∧ Turned (Foot h q (some m)) w wr ∧ (wr.cell? ⟨w.heap.size, 0, none⟩ = some (.int .i64 e.1) ∧ wr.cell? ⟨w.heap.size, 1, none⟩ = some (.int .i64 e.2))) (fun pv _ => (intOf pv).toNat)
  case atStart => exact ⟨p0, t0, f0, rfl, hp0, HH.out, HS.out, .of_below Hb1.out, Hx.out⟩
  case round =>
    obtain ⟨p, t, f, rfl, hpn, H1, S1, T1, hx⟩ := hrel
    have HH1 := Lib.hid H1; have HS1 := Lib.hid S1; have HT1 := Lib.hid T1; have Hx1 := Lib.hid hx
    clear H1 S1 T1 hx hp0
    by_cases hp : 0 < p
    · have hlen := HS1.out.len
      have hqp : (p - 1) / 2 < t.length := by omega
      obtain ⟨b, hb⟩ : ∃ b, t[(p - 1) / 2]? = some b := ⟨_, List.getElem?_eq_getElem hqp⟩
      obtain ⟨k, hk⟩ : ∃ k, (p - 1) / 2 = k := ⟨_, rfl⟩
      have hhalf := half_of p hp
      rw [hk] at hb hhalf hqp
      have hkp : k ≠ p := by omega
      have Hhalf := Lib.hid hhalf; have Hb := Lib.hid hb; have Hk := Lib.hid hk
      obtain ⟨g, c, rfl, hgs, hlc, hcm, hrow, hown, c0, c1⟩ := HH1.out.get hb
      obtain ⟨x0, x1⟩ := Hx1.out
      have k0 : ∀ n os, (grow (wr.drewN n) os).cell? ⟨h.b, h.o, none⟩ = some (.slice (some ⟨g, 0, none⟩) t.length c) := cell_grown (Array.getElem?_eq_some_iff.1 hrow).1 (h.cell0 hrow)
      have k1 : ∀ n os, (grow (wr.drewN n) os).cell? ⟨g, k * 2, none⟩ = some (.int .i64 b.1) := cell_grown hgs c0
      have k2 : ∀ n os, (grow (wr.drewN n) os).cell? ⟨g, k * 2 + 1, none⟩ = some (.int .i64 b.2) := cell_grown hgs c1
      have k3 : ∀ n os, (grow (wr.drewN n) os).cell? ⟨w.heap.size, 0, none⟩ = some (.int .i64 e.1) := cell_grown (block_lt_of_cell x0) x0
      have k4 : ∀ n os, (grow (wr.drewN n) os).cell? ⟨w.heap.size, 1, none⟩ = some (.int .i64 e.2) := cell_grown (block_lt_of_cell x1) x1
      have b0 : (0 : Int) ≤ (k : Int) := by omega
      have b1 : (k : Int) < (t.length : Int) := by omega
      have b2 : (0 : Int) < (p : Int) := by omega
      have b3 : (p : Int) ≤ 100000 := by omega
      have mixed : Tryz.prog.follows .mixedOrders = true := mixed_is
      have Hlen := Lib.hid hlen
      clear hlen hhalf hb hk hrow hown c0 c1 x0 x1
      go_wp2
      rw [Hhalf.out]
      obtain ⟨r, hr⟩ : ∃ r, cmpE e b = r := ⟨_, rfl⟩
      have hcmp : ∀ W, Calls Tryz.prog 71 #[.agg #[.int .i64 e.1, .int .i64 e.2], .agg #[.int .i64 b.1, .int .i64 b.2]] W fun en w' => en = .returned (.int .i64 r) ∧ ∃ q os', w' = grow (W.drewN q) os' := fun W => by rw [← hr]; exact compare_any e b W
      have hneg := cmpE_lt e b
      rw [hr] at hneg
      have Hcmp := Lib.hid hcmp; have Hneg := Lib.hid hneg
      clear hr hcmp hneg
      by_cases hlt : r < 0
      · have hd : decide (0 ≤ r) = false := decide_eq_false (by omega)
        have Hlt := Lib.hid hlt
        clear hlt
        go_quiet_grown (first | (go_at_call 71; refine Calls.grown_of (Hcmp.out _)))
        obtain ⟨W2, hW2⟩ : ∃ W2, grow (wr.drewN nq) osq = W2 := ⟨_, rfl⟩
        dsimp only
        rw [hW2]
        have hb2 : Below wr.heap.size wr W2 := by rw [← hW2]; exact below_ofgrow _ _ _
        have Hb2 := Lib.hid hb2
        have y0 : W2.cell? ⟨h.b, h.o, none⟩ = some (.slice (some ⟨g, 0, none⟩) t.length c) := by rw [← hW2]; exact k0 _ _
        have y1 : W2.cell? ⟨g, k * 2, none⟩ = some (.int .i64 b.1) := by rw [← hW2]; exact k1 _ _
        have y2 : W2.cell? ⟨g, k * 2 + 1, none⟩ = some (.int .i64 b.2) := by rw [← hW2]; exact k2 _ _
        have Hy : Hid _ := Lib.hid (And.intro ((k3 nq osq)) (k4 nq osq))
        simp only [hW2] at Hy
        clear hW2 hb2 k0 k1 k2 k3 k4
        go_wp2_with (go_at_call 62; refine (lay_any B h p m (some g) t ks f b W2 (HH1.out.below Hb2.out) (by have := Hlen.out; omega) Hks.out (entFits HR.out HS1.out hkp Hb.out)).mono ?_; rintro en W3 ⟨rfl, h3, t3⟩; have HH3 := Lib.hid h3; have HT3 := Lib.hid t3; clear h3 t3 y0 y1 y2)
        go_roundw
        case rel =>
          have hmv := HS1.out.moved hkp Hb.out (by rw [← Hk.out]; exact HS1.out.hole.up hp (by rw [Hk.out]; exact Hb.out))
          refine ⟨k, t.set p b, upd f b.1 (p : Int), rfl, by have := Hlen.out; omega, ?_, hmv.1, ?_, ?_⟩
          · have := HH3.out; rwa [hmv.2] at this
          · exact (HT1.out.trans (.of_below Hb2.out) (fun _ e => e) (fun _ _ e => e)).trans HT3.out (fun _ e => e) (fun _ _ e => e)
          · have hno : ¬ Foot h (some g) (some m) w.heap.size := fun e => Nat.lt_irrefl _ (Hsp.out _ e)
            exact ⟨HT3.out.cell Hy.out.1 hno, HT3.out.cell Hy.out.2 hno⟩
        case measure => have := Hk.out; simp [intOf]; omega
      · have hd : decide (0 ≤ r) = true := decide_eq_true (by omega)
        have Hlt := Lib.hid hlt
        clear hlt
        go_quiet_grown (first | (go_at_call 71; refine Calls.grown_of (Hcmp.out _)))
        obtain ⟨W2, hW2⟩ : ∃ W2, grow (wr.drewN nq) osq = W2 := ⟨_, rfl⟩
        dsimp only
        rw [hW2]
        have hb2 : Below wr.heap.size wr W2 := by rw [← hW2]; exact below_ofgrow _ _ _
        have Hb2 := Lib.hid hb2
        have y0 : W2.cell? ⟨h.b, h.o, none⟩ = some (.slice (some ⟨g, 0, none⟩) t.length c) := by rw [← hW2]; exact k0 _ _
        have y1 : W2.cell? ⟨g, k * 2, none⟩ = some (.int .i64 b.1) := by rw [← hW2]; exact k1 _ _
        have y2 : W2.cell? ⟨g, k * 2 + 1, none⟩ = some (.int .i64 b.2) := by rw [← hW2]; exact k2 _ _
        clear hW2 hb2 k0 k1 k2 k3 k4
        go_wp2
        go_ret
        unfold RiseRet
        refine ⟨p, t, f, rfl, HH1.out.below Hb2.out, HS1.out, fun a _ ha hl => ?_, HT1.out.trans (.of_below Hb2.out) (fun _ e => e) (fun _ _ e => e)⟩
        rw [Hk.out, Hb.out] at ha
        injection ha with ha
        subst ha
        have h1 := Hneg.out.2 hl
        have h2 := Hlt.out
        omega
    · obtain rfl : p = 0 := by omega
      clear hp
      go_wp2
      go_ret
      unfold RiseRet
      exact ⟨0, t, f, rfl, HH1.out, HS1.out, fun a h0 => absurd h0 (by omega), HT1.out⟩
end Go.Proofs.YtbfjakchgmdldaaGreat
