/- For any slice of acts and any at, SectorOthers returns true: what is done to one sector changes no other one, whatever the power does; more than 30 acts ask the document's example alone. Conditions: none. -/
import Derived.Test.YtoffmnphcleeoaaRows
import Derived.Test.YtoffmnphcleeoaaLaw
import Derived.Test.YtoffmnphcleeoaaSecA
import Derived.Test.YtoffmnphcleeoaaActs
import Derived.Deep.RegionHeld3
import Derived.Deep.DeepCutAuto
namespace Go.Proofs.Ytoffmnphcleeoaa.sectorOthers
open Go.ChangeShapes Go.WideShapes Go.ChangeAt Go.RowKit
set_option linter.unusedVariables false

/-- sector i is 7, all of it, for sure, and no write waits for it; at most k wait -/
structure Good (i k : Nat) (d : Dv) : Prop where
  n : d.n = 6
  L : d.L.length ≤ k
  S : sec d.S i = full 7
  w : ∀ p ∈ d.L, p.1 ≠ i
theorem Good.more {i k : Nat} {d : Dv} (h : Good i k d) : Good i (k + 1) d := ⟨h.n, Nat.le_succ_of_le h.L, h.S, h.w⟩
theorem Good.burnt {i k : Nat} {d : Dv} (h : Good i k d) : Good i k d.burnt := by
  refine ⟨?_, ?_, ?_, ?_⟩
  · rw [Dv.burnt_n]; exact h.n
  · rw [Dv.burnt_L]; exact h.L
  · rw [Dv.burnt_S]; exact h.S
  · rw [Dv.burnt_L]; exact h.w
theorem Good.write {i k : Nat} {d : Dv} (h : Good i k d) {j : Int} (hj : j ≠ (i : Int)) (bs : List UInt8) : Good i (k + 1) (d.write j bs) := by
  unfold Dv.write
  split
  · exact h.burnt.more
  · split
    · rename_i hi
      refine ⟨h.burnt.n, ?_, h.burnt.S, fun p hp => ?_⟩
      · show (d.L ++ [(j.toNat, bs)]).length ≤ k + 1
        rw [List.length_append]
        have := h.L
        simp
        omega
      · simp only [List.mem_append, List.mem_singleton] at hp
        rcases hp with hp | rfl
        · exact h.w p hp
        · show j.toNat ≠ i
          omega
    · exact h.burnt.more
theorem Good.settled {i k : Nat} {d : Dv} (hok : d.Ok) (h : Good i k d) (hi : i < 6) (keeps : List Int) : Good i k (d.settled keeps) := by
  refine ⟨h.n, Nat.zero_le _, ?_, fun p hp => (by cases hp)⟩
  show sec (settle keeps 0 d.L d.S) i = _
  rw [settle_other (n := d.n) hok.S hok.L (by rw [h.n]; exact hi) h.w]
  exact h.S
theorem Good.boot {i k : Nat} {d : Dv} (hok : d.Ok) (h : Good i k d) (hi : i < 6) (keeps : List Int) : Good i k (d.boot keeps) := by
  have := h.settled hok hi keeps
  exact ⟨this.n, this.L, this.S, this.w⟩
theorem Good.flush {i k : Nat} {d : Dv} (hok : d.Ok) (h : Good i k d) (hi : i < 6) : Good i k d.flush := by
  unfold Dv.flush
  split
  · exact h.burnt
  · exact h.burnt.settled hok.burnt hi []
theorem Good.fuse {i k : Nat} {d : Dv} (h : Good i k d) (f : Int) : Good i k { d with fuse := f } := ⟨h.n, h.L, h.S, h.w⟩

/-- the devices at the start -/
def dA (i : Nat) : Dv := (Dv.new 6).write i (full 7)
def dB (i : Nat) : Dv := (dA i).flush
theorem new_S : (Dv.new 6).S.length = 6 * 64 := List.length_replicate
theorem dA_eq {i : Nat} (hi : i < 6) : (Dv.new 6).writeE i (full 7) = 0 ∧ dA i = { Dv.new 6 with L := [(i, full 7)] } := by
  have := Dv.writeE_ok (d := Dv.new 6) (i := (i : Int)) (bs := full 7) rfl ⟨by omega, by show (i : Int) < 6; omega, full_length 7⟩
  exact ⟨this.1, this.2⟩
theorem dB_eq {i : Nat} (hi : i < 6) : (dA i).flushE = 0 ∧ Good i 0 (dB i) := by
  unfold dB
  rw [(dA_eq hi).2]
  refine ⟨rfl, rfl, Nat.le_refl _, ?_, fun p hp => (by cases hp)⟩
  show sec (put (Dv.new 6).S (64 * i) ((full 7).take 64)) i = _
  rw [List.take_of_length_le (by rw [full_length]; omega), sec_put_same (n := 6) new_S hi (by rw [full_length]; omega), sec_new hi, full_length]
  simp

theorem new_apart {w : World} {B g s : Nat} {r : Option Nat} (h : g < w.heap.size ∧ s < w.heap.size ∧ B ≤ g ∧ B ≤ s ∧ ∀ k, r = some k → B ≤ k ∧ k < w.heap.size) : ∀ gb ob, (some ⟨w.heap.size, 0, none⟩ : Option Addr) = some ⟨gb, ob, none⟩ → gb ≠ g ∧ gb ≠ s ∧ r ≠ some gb := fun gb ob e => by
  injection e with e; injection e with e _
  have h1 := h.1; have h2 := h.2.1
  refine ⟨by omega, by omega, fun e2 => ?_⟩
  have h3 := (h.2.2.2.2 gb e2).2
  omega

theorem walk_long (A : Option Addr) (n c : Nat) (a : Int) (w : World) (h : 30 < n) (hm : n ≤ maxLen) :
    Calls Try.prog 4 #[.slice A n c, .int .u8 a] w fun e w' => e = .returned (.bool true) ∧ Below w.heap.size w w' := by
  unfold maxLen at hm
  have h' : (30 : Int) < (n : Int) := by omega
  go_enter Try.func4, Try.ntmps4
  go_wp2_with (go_at_call 13; refine (awake_any _).mono ?_; rintro e w' ⟨rfl, hb⟩)
  go_ret
  exact ⟨rfl, hb⟩

set_option maxRecDepth 100000 in
set_option maxHeartbeats 8000000 in
theorem walk_main (A : Option Addr) (n c : Nat) (l : List ActD) (t i : Nat) (w : World) (hn : l.length = n) (h30 : n ≤ 30) (h : ActsAt w A l) (ht : (t : Int).tmod 6 = (i : Int)) (hi : i < 6) (ht1 : t < 256) :
    Calls Try.prog 4 #[.slice A n c, .int .u8 (t : Int)] w fun e w' => e = .returned (.bool true) ∧ Below w.heap.size w w' := by
  have Hh := Lib.hid h; clear h
  have Hn := Lib.hid hn; clear hn
  obtain ⟨B, hB⟩ : ∃ B, w.heap.size = B := ⟨_, rfl⟩
  have HB := Lib.hid hB; clear hB
  have h30' : ¬ (30 : Int) < (n : Int) := by omega
  go_enter Try.func4, Try.ntmps4
  go_wp2_with fail
  refine (New_any 6 w (by omega) (by omega)).mono ?_
  rw [HB.out]
  rintro e w1 ⟨g, s, rfl, hd, hb⟩
  have Hd1 := Lib.hid hd; have Hb1 := Lib.hid hb
  clear hd hb
  go_wp2_with fail
  refine (full_any 7 w1).mono ?_
  rintro e w2 ⟨rfl, hfl, hb⟩
  have hB1 : B ≤ w1.heap.size := by have := Hb1.out.size; have := HB.out; omega
  have Hd2 := Lib.hid (Hd1.out.below hb)
  have Hb2 := Lib.hid (Hb1.out.trans (hb.mono hB1))
  have Hf2 := Lib.hid (Blk.seen hfl)
  have Hl1 := Lib.hid Hd1.out.lt
  have hB2 : B ≤ w2.heap.size := by have := hb.size; omega
  clear hfl hb
  go_wp2_with fail
  refine (Write_any B g s none (Dv.new 6) i _ 64 64 (full 7) w2 Hd2.out (by show 0 < _; omega) (by omega) (by omega) (full_length _) (by omega) hB2 Hf2.out (fun gb ob e => by
    injection e with e; injection e with e _
    have := Hl1.out.1; have := Hl1.out.2.1
    exact ⟨by omega, by omega, by simp⟩)).mono ?_
  rw [(dA_eq hi).1]
  rintro e w3 ⟨rfl, hmv⟩
  have Hb3 := Lib.hid (Hb2.out.trans (hmv.below Hd2.out hB2))
  obtain ⟨r3, hd3, hrr3, _⟩ := hmv
  have Hd3 := Lib.hid (show IsD w3 B g s r3 (dA i) from hd3)
  have hB3 : B ≤ w3.heap.size := by have := Hb3.out.size; have := HB.out; omega
  clear hd3 hrr3
  go_wp2_with fail
  refine (Flush_any B g s r3 (dA i) _ Hd3.out (by rw [(dA_eq hi).2]; show 1 ≤ _; omega)).mono ?_
  rw [(dB_eq hi).1]
  rintro e w4 ⟨rfl, hmv⟩
  have Hb4 := Lib.hid (Hb3.out.trans (hmv.below Hd3.out hB3))
  obtain ⟨r4, hd4, _, _⟩ := hmv
  have Hd4 := Lib.hid (show IsD w4 B g s r4 (dB i) from hd4)
  have Hg4 := Lib.hid (dB_eq hi).2
  have hBs := Hd4.out.lt.2.2.2.1
  clear hd4 hB1 hB2 hB3
  go_wp2_with fail
  go_loopw [7] (fun v wr => ∃ (k : Nat) (r : Option Nat) (d : Dv), k ≤ n ∧ v = .int .i64 k ∧ IsD wr B g s r d ∧ Good i k d ∧ Below B w wr) (fun v _ => n - (intOf v).toNat)
  case atStart => exact ⟨0, r4, _, by omega, rfl, Hd4.out, Hg4.out, Hb4.out⟩
  case round =>
    obtain ⟨k, r, d, hk, rfl, hd, hgd, hb⟩ := hrel
    have Hd := Lib.hid hd; have Hgd := Lib.hid hgd; have Hb := Lib.hid hb
    clear hd hgd hb
    have hBr : B ≤ wr.heap.size := by have := Hb.out.size; have := HB.out; omega
    by_cases hlt : k < n
    · obtain ⟨lg, lo, a, rfl, hla, hat⟩ := Hh.out.get (k := k) (by have := Hn.out; omega)
      have hbw : Below w.heap.size w wr := by rw [HB.out]; exact Hb.out
      obtain ⟨c0, c1, c3, c4, hm, hks, i1, i2⟩ := hat.below hbw
      have Hks := Lib.hid hks; have Hm := Lib.hid hm
      have hkw : ∀ gb ob, 0 < a.m → a.A = some ⟨gb, ob, none⟩ → gb ≠ s := fun gb ob h0 e => by
        obtain ⟨_, _, _, _, hm0, hks0, _, _⟩ := hat
        rcases hks0 with e2 | ⟨g2, o2, e2, hc⟩
        · have := congrArg List.length e2
          rw [intsV, List.length_map, hm0] at this
          simp at this
          omega
        · rw [e] at e2
          injection e2 with e2; injection e2 with e2 _
          subst e2
          have h1 : (intsV a.ks)[0]? = some ((intsV a.ks)[0]'(by rw [intsV, List.length_map, hm0]; exact h0)) := List.getElem?_eq_getElem _
          have h2 := block_lt_of_cell (hc 0 _ h1)
          have := HB.out
          simp at h2
          omega
      have Hkw := Lib.hid hkw
      have hlg : lg < B := Nat.lt_of_lt_of_eq (block_lt_of_cell hat.1) HB.out
      have Hlg := Lib.hid hlg
      clear hat hm hks hkw hla hbw
      have b0 : (0 : Int) ≤ (k : Int) := by omega
      have b1 : (k : Int) < (n : Int) := by omega
      have hdl : d.L.length ≤ 30 := by have := Hgd.out.L; omega
      have Hdl := Lib.hid hdl; clear hdl
      have Hn0 := Lib.hid hlt
      by_cases h0 : a.t = 0
      · rw [h0] at c0
        clear h0
        by_cases hi0 : a.i = (i : Int)
        · have hq : (a.i != (i : Int)) = false := by rw [hi0]; simp
          clear hi0
          go_wp2
          go_roundw
          case rel => exact ⟨k + 1, r, d, by omega, by go_num, Hd.out, Hgd.out.more, Hb.out⟩
          case measure => simp [intOf]; omega
        · have hq : (a.i != (i : Int)) = true := by simp [hi0]
          have Hi0 := Lib.hid hi0; clear hi0
          have Hlr := Lib.hid Hd.out.lt
          clear c4
          go_wp2_with fail
          go_region_held3 (fun w' => w'.cell? ⟨lg, lo + k * 5 + 1, none⟩ = some (.int .i64 a.i) ∧ w'.cell? ⟨lg, lo + k * 5 + 3, none⟩ = some (.int .u8 (a.x.toNat : Int)))
            (first | exact ⟨c1, c3⟩ | exact ⟨p1, p3⟩ | exact ⟨q1, q3⟩)
            (first
              | (go_at_call 7; refine (full_any a.x wr.drew).mono ?_; rintro e w10 ⟨rfl, hfl, hbx⟩; have HA := Lib.hid ((Below.refl wr.heap.size wr).drew.trans hbx); have p1 : w10.cell? ⟨lg, lo + k * 5 + 1, none⟩ = some (.int .i64 a.i) := (HA.out.cell (p := ⟨lg, lo + k * 5 + 1, none⟩) (Nat.lt_of_lt_of_le Hlg.out hBr)).trans c1; have p3 : w10.cell? ⟨lg, lo + k * 5 + 3, none⟩ = some (.int .u8 (a.x.toNat : Int)) := (HA.out.cell (p := ⟨lg, lo + k * 5 + 3, none⟩) (Nat.lt_of_lt_of_le Hlg.out hBr)).trans c3; have Hf10 := Lib.hid (Blk.seen hfl); clear hfl hbx)
              | (go_at_call 6; refine (Write_any B g s r d a.i (some ⟨wr.heap.size, 0, none⟩) 64 64 (full a.x) w10 (Hd.out.below HA.out) (by have := Hdl.out; omega) i1 i2 (full_length _) (by omega) (Nat.le_trans hBr HA.out.size) Hf10.out (new_apart Hlr.out)).mono ?_; rintro e w11 ⟨rfl, hmv⟩; have HW := Lib.hid hmv; have HC := Lib.hid (hmv.below (Hd.out.below HA.out) (Nat.le_trans hBr HA.out.size)); have q1 : w11.cell? ⟨lg, lo + k * 5 + 1, none⟩ = some (.int .i64 a.i) := (HC.out.cell (p := ⟨lg, lo + k * 5 + 1, none⟩) Hlg.out).trans p1; have q3 : w11.cell? ⟨lg, lo + k * 5 + 3, none⟩ = some (.int .u8 (a.x.toNat : Int)) := (HC.out.cell (p := ⟨lg, lo + k * 5 + 3, none⟩) Hlg.out).trans p3; clear hmv))
          all_goals
            go_wp2
            go_roundw
            case rel =>
              obtain ⟨r2, hd2, _, _⟩ := HW.out
              exact ⟨k + 1, r2, _, by omega, by go_num, hd2, Hgd.out.write Hi0.out _, Hb.out.trans ((HA.out.mono hBr).trans HC.out)⟩
            case measure => simp [intOf]; omega
      · have hq0 : (a.t == 0) = false := by simp [h0]
        have hdl := Hdl.out
        clear c3
        by_cases h2 : a.t = 2
        · rw [h2] at c0
          clear h2 h0 hq0
          go_wp2_with fail
          refine (Flush_any B g s r d _ Hd.out (by omega)).mono ?_
          rintro e w5 ⟨rfl, hmv⟩
          have HC := Lib.hid (hmv.below Hd.out hBr)
          have HW := Lib.hid hmv
          clear hmv
          go_wp2
          go_roundw
          case rel =>
            obtain ⟨r2, hd2, _, _⟩ := HW.out
            exact ⟨k + 1, r2, _, by omega, by go_num, hd2, (Hgd.out.flush Hd.out.ok hi).more, Hb.out.trans HC.out⟩
          case measure => simp [intOf]; omega
        · have hq2 : (a.t == 2) = false := by simp [h2]
          by_cases h3 : a.t = 3
          · rw [h3] at c0
            clear h3 h2 h0 hq0 hq2
            go_wp2_with fail
            refine (Fuse_any B g s r d a.i _ Hd.out i1 i2).mono ?_
            rintro e w5 ⟨rfl, hmv⟩
            have HC := Lib.hid (hmv.below Hd.out hBr)
            have HW := Lib.hid hmv
            clear hmv
            go_wp2
            go_roundw
            case rel =>
              obtain ⟨r2, hd2, _, _⟩ := HW.out
              exact ⟨k + 1, r2, _, by omega, by go_num, hd2, (Hgd.out.fuse a.i).more, Hb.out.trans HC.out⟩
            case measure => simp [intOf]; omega
          · have hq3 : (a.t == 3) = false := by simp [h3]
            by_cases h4 : a.t = 4
            · rw [h4] at c0
              clear h4 h3 h2 h0 hq0 hq2 hq3
              go_wp2_with fail
              refine (Boot_any B g s r d a.A a.m a.c a.ks _ Hd.out (by omega) Hm.out Hks.out (fun h0 gb ob e => Hkw.out gb ob h0 e)).mono ?_
              rintro e w5 ⟨rfl, hmv⟩
              have HC := Lib.hid (hmv.below Hd.out hBr)
              have HW := Lib.hid hmv
              clear hmv
              go_wp2
              go_roundw
              case rel =>
                obtain ⟨r2, hd2, _, _⟩ := HW.out
                exact ⟨k + 1, r2, _, by omega, by go_num, hd2, (Hgd.out.boot Hd.out.ok hi a.ks).more, Hb.out.trans HC.out⟩
              case measure => simp [intOf]; omega
            · have hq4 : (a.t == 4) = false := by simp [h4]
              have H0 := Lib.hid (And.intro h0 (And.intro h2 (And.intro h3 h4)))
              clear h0 h2 h3 h4
              go_wp2
              go_roundw
              case rel => exact ⟨k + 1, r, d, by omega, by go_num, Hd.out, Hgd.out.more, Hb.out⟩
              case measure => simp [intOf]; omega
    · obtain rfl : k = n := by omega
      have hbo := (Hgd.out.boot Hd.out.ok hi [])
      go_wp2_with fail
      refine (Boot_any B g s r d none 0 0 [] _ Hd.out (by have := Hgd.out.L; omega) rfl (.inl rfl) (fun h => by omega)).mono ?_
      rintro e w5 ⟨rfl, hmv⟩
      have Hb5 := Lib.hid (Hb.out.trans (hmv.below Hd.out hBr))
      obtain ⟨r5, hd5, _, _⟩ := hmv
      have Hd5 := Lib.hid hd5; have Hbo := Lib.hid hbo
      have hB5 : B ≤ w5.heap.size := by have := Hb5.out.size; have := HB.out; omega
      clear hd5 hbo
      go_wp2_with fail
      refine (Read_any B g s r5 (d.boot []) i _ Hd5.out (by have := Hbo.out.L; omega) rfl (by rw [Hbo.out.n]; exact hi)).mono ?_
      rw [newest_other Hbo.out.w, Hbo.out.S]
      rintro e w6 ⟨pb, rfl, hbl, hbk, hb⟩
      have Hb6 := Lib.hid (Hb5.out.trans (hb.mono hB5))
      have Hp6 := Lib.hid (Blk.seen hbk)
      have hB6 : B ≤ w6.heap.size := by have := Hb6.out.size; have := HB.out; omega
      clear hbl hbk hb
      go_wp2_with fail
      refine (full_any 7 _).mono ?_
      rintro e w7 ⟨rfl, hfl, hb⟩
      have Hb7 := Lib.hid (Hb6.out.trans (hb.mono hB6))
      have Hp7 := Lib.hid (Hp6.out.below hb)
      have Hf7 := Lib.hid (Blk.seen hfl)
      have hB7 : B ≤ w7.heap.size := by have := Hb7.out.size; have := HB.out; omega
      clear hfl hb
      go_wp2_with fail
      refine (Same_any (some ⟨pb, 0, none⟩) (some ⟨w6.heap.size, 0, none⟩) 64 64 64 64 (full 7) (full 7) w7 (full_length _) (full_length _) Hp7.out Hf7.out (by omega)).mono ?_
      rintro e w8 ⟨rfl, hb⟩
      rw [decide_eq_true rfl]
      have Hb8 := Lib.hid (Hb7.out.trans (hb.mono hB7))
      have hB8 : B ≤ w8.heap.size := by have := Hb8.out.size; have := HB.out; omega
      clear hb
      go_wp2_with fail
      refine (awake_any _).mono ?_
      rintro e w9 ⟨rfl, hb⟩
      have Hb9 := Lib.hid (Hb8.out.trans (hb.mono hB8))
      clear hb
      go_wp2
      go_ret
      rw [HB.out]
      exact ⟨rfl, Hb9.out⟩

theorem walk (A : Option Addr) (n c : Nat) (l : List ActD) (a1 : Int) (w : World) (hn : l.length = n) (hnc : n ≤ c) (hcm : c ≤ maxLen) (h : ActsAt w A l) (w1 : (Lit.int .u8 a1).wf = true) :
    Calls Try.prog 4 #[.slice A n c, .int .u8 a1] w fun e w' => e = .returned (.bool true) ∧ Below w.heap.size w w' := by
  by_cases h30 : 30 < n
  · exact walk_long A n c a1 w h30 (by omega)
  · have b1 := bounds_u8 w1
    obtain ⟨t, rfl⟩ : ∃ t : Nat, a1 = (t : Int) := ⟨a1.toNat, by omega⟩
    exact walk_main A n c l t (t % 6) w hn (by omega) h (by rw [Int.tmod_eq_emod_of_nonneg (by omega)]; omega) (by omega) (by omega)

/-! ### THE ROW -/
theorem own : ownKnob Try.prog.godebug = none := by kernel_rfl

set_option maxRecDepth 100000 in
theorem lifted (os : Os) (started : os.Started) (H : Type) (enc : TypeId × Value → H) :
    ReturnsInHanded {} Try.checked os 4 .any (Rows.sectorOthersSpec.pre6 enc Try.prog Try.f4 Rows.sectorOthersRow.domain false) (Rows.sectorOthersSpec.post enc Try.prog Try.f4 false true false false) := by
  refine returnsInHanded_of_change (C := Try.checked) own started (by kernel_rfl) Try.func4
    (ChangeSpec.witness6 (enc := enc) (C := Try.checked) false ⟨#[], #[.slice none 0 0, .int .u8 0], []⟩ 8 (by kernel_rfl) (by kernel_rfl) (by kernel_rfl) (by kernel_rfl)) ?_
  intro W base args ds gs before hval0 hW hcnd _
  have hval : ∀ (j : Nat) t v, Try.f4.params[j]? = some t → args[j]? = some v → Value.okWide Try.prog W .any base t v := hval0
  have hW' := hW
  obtain ⟨p, q, hA0, hV, rfl, hfz, hnd⟩ := hW
  have hA : DataW.TrodAll enc Try.prog W 0 (fun _ => true) true Try.f4.params.toList args.toList ds p := hA0
  rw [Try.params4] at hA hval
  obtain ⟨v0, vs0, d0, ds0, p0, q0, hargs, rfl, rfl, h0, r0⟩ := trodAll_cons hA
  obtain ⟨v1, vs1, d1, ds1, p1, q1, rfl, rfl, rfl, h1, r1⟩ := trodAll_cons r0
  obtain ⟨rfl, rfl, rfl⟩ := trodAll_nil r1
  obtain rfl : args = #[v0, v1] := by cases args; simp_all
  obtain ⟨rfl, rfl⟩ := trodVars_none hV
  obtain ⟨A0, n0, c0, fs0, rfl, hn0, hnc0, hcm0, hf0⟩ := open_acts Try.underlying37 Try.underlying39 rfl rfl rfl rfl rfl rfl rfl rfl rfl Try.underlying3 Try.underlying3 Try.underlying5 Try.underlying31 Try.underlying3 (by kernel_rfl) (by kernel_rfl) (by kernel_rfl) (by kernel_rfl) (by kernel_rfl) (by kernel_rfl) (hval 0 37 v0 rfl rfl) h0
  obtain ⟨a1, rfl, rfl, rfl, w1⟩ := open_int Try.underlying5 (hval 1 5 v1 rfl rfl) h1
  refine (walk A0 n0 c0 fs0 a1 W hn0 hnc0 hcm0 hf0 w1).mono fun e W' ⟨he, hg⟩ => ?_
  subst he
  exact ⟨_, rfl, law_post hW' rfl (by kernel_rfl) (by kernel_rfl) (by kernel_rfl) Try.underlying4 rfl rfl rfl hg⟩

theorem over : Rows.sectorOthersRow.holds Try.pinned (OpenSpec.ofChange Rows.sectorOthersSpec) :=
  OpenClaim.holds_of_wide 4 Try.f4 rfl rfl rfl rfl rfl rfl rfl ⟨rfl, rfl, rfl, rfl, rfl⟩ rfl rfl rfl rfl rfl (by kernel_rfl) Try.func4 (by kernel_rfl)
    (of_decide_eq_true (by kernel_rfl)) (by unfold Func.isWrapper; first | (rw [if_pos (by decide +kernel)]; kernel_rfl) | (rw [if_neg (by decide +kernel)]; exact ⟨rfl, rfl⟩))
    (fun os started H enc _ => lifted os started H enc)

theorem proved : Rows.SectorOthersSaid :=
  over
#print axioms proved

end Go.Proofs.Ytoffmnphcleeoaa.sectorOthers
