/- For any bytes a and b, any at and fuse, any keep, SectorKeeps returns true: what was flushed stands behind whatever the power does; of what wasn't a beginning does. Conditions: none. -/
import Derived.Test.YtoffmnphcleeoaaRows
import Derived.Test.YtoffmnphcleeoaaLaw
import Derived.Test.YtoffmnphcleeoaaSecA
import Derived.Deep.RegionHeld3
import Derived.Deep.DeepCutAuto
namespace Go.Proofs.Ytoffmnphcleeoaa.sectorKeeps
open Go.ChangeShapes Go.WideShapes Go.ChangeAt Go.RowKit
set_option linter.unusedVariables false

/-- the devices on the way -/
def dA (i : Nat) (a : UInt8) : Dv := (Dv.new 4).write i (full a)
def dB (i : Nat) (a : UInt8) : Dv := (dA i a).flush
def dC (i : Nat) (a : UInt8) (f : Nat) : Dv := { dB i a with fuse := (f : Int) }
def dD (i : Nat) (a b : UInt8) (f : Nat) : Dv := (dC i a f).write i (full b)
def dE (i : Nat) (a b : UInt8) (f : Nat) (keep : Int) : Dv := (dD i a b f).boot [keep]
/-- how much of the second write has come -/
def came (f : Nat) (keep : Int) : Nat := if f = 0 then 0 else kept [keep] 0

theorem new_S : (Dv.new 4).S.length = 4 * 64 := List.length_replicate
theorem new_burnt : (Dv.new 4).burnt = Dv.new 4 := rfl
theorem dA_eq {i : Nat} {a : UInt8} (hi : i < 4) : (Dv.new 4).writeE i (full a) = 0 ∧ dA i a = { Dv.new 4 with L := [(i, full a)] } := by
  have := Dv.writeE_ok (d := Dv.new 4) (i := (i : Int)) (bs := full a) rfl ⟨by omega, by show (i : Int) < 4; omega, full_length a⟩
  refine ⟨this.1, this.2.trans ?_⟩
  rfl
theorem dB_eq {i : Nat} {a : UInt8} (hi : i < 4) : (dA i a).flushE = 0 ∧ dB i a = { n := 4, S := put (Dv.new 4).S (64 * i) (full a), L := [], fuse := -1, down := false } := by
  unfold dB
  rw [(dA_eq hi).2]
  refine ⟨rfl, ?_⟩
  show ({ n := 4, S := put (Dv.new 4).S (64 * i) ((full a).take 64), L := [], fuse := -1, down := false } : Dv) = _
  rw [List.take_of_length_le (by rw [full_length]; omega)]
theorem dC_eq {i : Nat} {a : UInt8} (hi : i < 4) (f : Nat) : dC i a f = { n := 4, S := put (Dv.new 4).S (64 * i) (full a), L := [], fuse := (f : Int), down := false } := by
  unfold dC
  rw [(dB_eq hi).2]
theorem dD_zero {i : Nat} {a b : UInt8} (hi : i < 4) : (dC i a 0).writeE i (full b) = 16 ∧ dD i a b 0 = { n := 4, S := put (Dv.new 4).S (64 * i) (full a), L := [], fuse := 0, down := true } := by
  have := Dv.writeE_down (d := dC i a 0) (by rw [dC_eq hi]; rfl) i (full b)
  refine ⟨this.1, this.2.trans ?_⟩
  rw [dC_eq hi]
  rfl
theorem dD_pos {i f : Nat} {a b : UInt8} (hi : i < 4) (hf : 0 < f) : (dC i a f).writeE i (full b) = 0 ∧ dD i a b f = { n := 4, S := put (Dv.new 4).S (64 * i) (full a), L := [(i, full b)], fuse := (f : Int) - 1, down := false } := by
  have hb : (dC i a f).burnt = { n := 4, S := put (Dv.new 4).S (64 * i) (full a), L := [], fuse := (f : Int) - 1, down := false } := by
    rw [dC_eq hi]
    exact if_pos (by show (0 : Int) < (f : Int); omega)
  have := Dv.writeE_ok (d := dC i a f) (by rw [hb]) (i := (i : Int)) (bs := full b) ⟨by omega, by rw [dC_eq hi]; show (i : Int) < 4; omega, full_length b⟩
  refine ⟨this.1, this.2.trans ?_⟩
  rw [hb]
  rfl
theorem dE_read {i f : Nat} {a b : UInt8} (keep : Int) (hi : i < 4) : newest (dE i a b f keep).L (dE i a b f keep).S i = (full b).take (came f keep) ++ (full a).drop (came f keep) := by
  have hS : (put (Dv.new 4).S (64 * i) (full a)).length = 4 * 64 := by
    rw [put_length]
    · exact new_S
    · rw [full_length, new_S]; omega
  have h1 : sec (put (Dv.new 4).S (64 * i) (full a)) i = full a := by
    rw [sec_put_same (n := 4) new_S hi (by rw [full_length]; omega), sec_new hi, full_length]
    simp
  have hk := kept_le [keep] 0
  unfold came
  by_cases h0 : f = 0
  · subst h0
    rw [if_pos rfl]
    have : (dE i a b 0 keep).S = put (Dv.new 4).S (64 * i) (full a) ∧ (dE i a b 0 keep).L = [] := by
      unfold dE
      rw [(dD_zero hi).2]
      exact ⟨rfl, rfl⟩
    rw [this.1, this.2]
    show sec _ i = _
    rw [h1]
    rfl
  · rw [if_neg h0]
    have : (dE i a b f keep).S = put (put (Dv.new 4).S (64 * i) (full a)) (64 * i) ((full b).take (kept [keep] 0)) ∧ (dE i a b f keep).L = [] := by
      unfold dE
      rw [(dD_pos hi (by omega)).2]
      exact ⟨rfl, rfl⟩
    rw [this.1, this.2]
    show sec _ i = _
    have hl : ((full b).take (kept [keep] 0)).length = kept [keep] 0 := by rw [List.length_take, full_length]; omega
    rw [sec_put_same hS hi (by rw [hl]; omega), h1, hl]
theorem dE_facts {i f : Nat} {a b : UInt8} (keep : Int) (hi : i < 4) : (dE i a b f keep).L.length = 0 ∧ (dE i a b f keep).down = false ∧ (dE i a b f keep).n = 4 ∧ (dC i a f).L.length = 0 ∧ (dD i a b f).L.length ≤ 1 := by
  by_cases h0 : f = 0
  · subst h0
    unfold dE
    rw [(dD_zero hi).2, dC_eq hi]
    exact ⟨rfl, rfl, rfl, rfl, by show 0 ≤ 1; omega⟩
  · unfold dE
    rw [(dD_pos hi (by omega)).2, dC_eq hi]
    exact ⟨rfl, rfl, rfl, rfl, Nat.le_refl 1⟩
theorem came_le (f : Nat) (keep : Int) : came f keep ≤ 64 := by
  have := kept_le [keep] 0
  unfold came
  split <;> omega

/-- a slice cut from k on -/
theorem seen_off {w : World} {g : Nat} {bs : List UInt8} (k : Nat) (h : Seen w (some ⟨g, 0, none⟩) (bytesV bs)) : Seen w (some ⟨g, k, none⟩) (bytesV (bs.drop k)) := by
  rcases h with h | ⟨g', o, e, hc⟩
  · have : bs = [] := by simpa [bytesV] using h
    subst this
    exact .inl (by simp [bytesV])
  · injection e with e; injection e with e1 e2
    subst e1; subst e2
    refine .inr ⟨g, k, rfl, fun j v hv => ?_⟩
    have := hc (k + j) v (by rw [bytesV, List.map_drop, List.getElem?_drop] at hv; exact hv)
    rwa [Nat.zero_add] at this

set_option maxRecDepth 100000 in
set_option maxHeartbeats 8000000 in
theorem walk_main (a b : UInt8) (t u i f : Nat) (keep : Int) (w : World) (ht : (t : Int).tmod 4 = (i : Int)) (hu : (u : Int).tmod 3 = (f : Int)) (hi : i < 4) (hf : f < 3) (ht1 : t < 256) (hu1 : u < 256) (k1 : -9223372036854775808 ≤ keep) (k2 : keep ≤ 9223372036854775807) :
    Calls Try.prog 3 #[.int .u8 (a.toNat : Int), .int .u8 (b.toNat : Int), .int .u8 (t : Int), .int .u8 (u : Int), .int .i64 keep] w fun e w' => e = .returned (.bool true) ∧ Below w.heap.size w w' := by
  obtain ⟨B, hB⟩ : ∃ B, w.heap.size = B := ⟨_, rfl⟩
  have HB := Lib.hid hB; clear hB
  have Hf := Lib.hid hf; clear hf
  go_enter Try.func3, Try.ntmps3
  go_wp2_with fail
  refine (New_any 4 w (by omega) (by omega)).mono ?_
  rw [HB.out]
  rintro e w1 ⟨g, s, rfl, hd, hb⟩
  have Hd1 := Lib.hid hd; have Hb1 := Lib.hid hb
  clear hd hb
  go_wp2_with fail
  refine (full_any a w1).mono ?_
  rintro e w2 ⟨rfl, hfl, hb⟩
  have hB1 : B ≤ w1.heap.size := by have := Hb1.out.size; have := HB.out; omega
  have Hd2 := Lib.hid (Hd1.out.below hb)
  have Hb2 := Lib.hid (Hb1.out.trans (hb.mono hB1))
  have Hf2 := Lib.hid (Blk.seen hfl)
  have Hl1 := Lib.hid Hd1.out.lt
  have hB2 : B ≤ w2.heap.size := by have := hb.size; omega
  clear hfl hb
  go_wp2_with fail
  refine (Write_any B g s none (Dv.new 4) i _ 64 64 (full a) w2 Hd2.out (by show 0 < _; omega) (by omega) (by omega) (full_length _) (by omega) hB2 Hf2.out (fun gb ob e => by
    injection e with e; injection e with e _
    have := Hl1.out.1; have := Hl1.out.2.1
    exact ⟨by omega, by omega, by simp⟩)).mono ?_
  rw [(dA_eq hi).1]
  rintro e w3 ⟨rfl, hmv⟩
  have Hb3 := Lib.hid (Hb2.out.trans (hmv.below Hd2.out hB2))
  obtain ⟨r3, hd3, hrr3, _⟩ := hmv
  have Hd3 := Lib.hid (show IsD w3 B g s r3 (dA i a) from hd3)
  have hB3 : B ≤ w3.heap.size := by have := Hb3.out.size; have := HB.out; omega
  clear hd3 hrr3
  go_wp2_with fail
  refine (Flush_any B g s r3 (dA i a) _ Hd3.out (by rw [(dA_eq hi).2]; show 1 ≤ _; omega)).mono ?_
  rw [(dB_eq hi).1]
  rintro e w4 ⟨rfl, hmv⟩
  have Hb4 := Lib.hid (Hb3.out.trans (hmv.below Hd3.out hB3))
  obtain ⟨r4, hd4, _, _⟩ := hmv
  have Hd4 := Lib.hid (show IsD w4 B g s r4 (dB i a) from hd4)
  have hB4 : B ≤ w4.heap.size := by have := Hb4.out.size; have := HB.out; omega
  clear hd4
  go_wp2_with fail
  refine (Fuse_any B g s r4 (dB i a) (f : Int) _ Hd4.out (by omega) (by have := Hf.out; omega)).mono ?_
  rintro e w5 ⟨rfl, hmv⟩
  have Hb5 := Lib.hid (Hb4.out.trans (hmv.below Hd4.out hB4))
  obtain ⟨r5, hd5, _, _⟩ := hmv
  have Hd5 := Lib.hid (show IsD w5 B g s r5 (dC i a f) from hd5)
  have hB5 : B ≤ w5.heap.size := by have := Hb5.out.size; have := HB.out; omega
  clear hd5
  go_wp2_with fail
  refine (full_any b w5).mono ?_
  rintro e w6 ⟨rfl, hfl, hb⟩
  have Hd6 := Lib.hid (Hd5.out.below hb)
  have Hb6 := Lib.hid (Hb5.out.trans (hb.mono hB5))
  have Hf6 := Lib.hid (Blk.seen hfl)
  have Hl5 := Lib.hid Hd5.out.lt
  have hB6 : B ≤ w6.heap.size := by have := hb.size; omega
  clear hfl hb
  obtain ⟨fa1, fa2, fa3, fa4, fa5⟩ := dE_facts (i := i) (f := f) (a := a) (b := b) keep hi
  have Fa := Lib.hid (And.intro fa1 (And.intro fa2 (And.intro fa3 (And.intro fa4 fa5))))
  clear fa1 fa2 fa3 fa4 fa5
  go_wp2_with fail
  refine (Write_any B g s r5 (dC i a f) i _ 64 64 (full b) w6 Hd6.out (by rw [Fa.out.2.2.2.1]; omega) (by omega) (by omega) (full_length _) (by omega) hB6 Hf6.out (fun gb ob e => by
    injection e with e; injection e with e _
    have h1 := Hl5.out.1; have h2 := Hl5.out.2.1
    refine ⟨by omega, by omega, fun e2 => ?_⟩
    have h3 := (Hl5.out.2.2.2.2 gb e2).2
    omega)).mono ?_
  obtain ⟨we, hwe⟩ : ∃ we, (dC i a f).writeE i (full b) = we := ⟨_, rfl⟩
  rw [hwe]
  have Hwe := Lib.hid hwe; clear hwe
  rintro e w7 ⟨rfl, hmv⟩
  have Hb7 := Lib.hid (Hb6.out.trans (hmv.below Hd6.out hB6))
  obtain ⟨r7, hd7, _, _⟩ := hmv
  have Hd7 := Lib.hid (show IsD w7 B g s r7 (dD i a b f) from hd7)
  have hB7 : B ≤ w7.heap.size := by have := Hb7.out.size; have := HB.out; omega
  have Hl7 := Lib.hid Hd7.out.lt
  clear hd7
  go_wp2_with fail
  have hbk : Below w7.heap.size w7 (w7.alloc (.cells #[.int .i64 keep] 3)) := (Below.refl _ _).alloc (Nat.le_refl _) _
  refine (Boot_any B g s r7 (dD i a b f) (some ⟨w7.heap.size, 0, none⟩) 1 1 [keep] _ (Hd7.out.below hbk) (by have := Fa.out.2.2.2.2; omega) rfl (Seen.of_cells (heap_alloc_new w7 _)) (fun _ gb ob e => by
    injection e with e; injection e with e _
    have := Hl7.out.2.1
    omega)).mono ?_
  rintro e w8 ⟨rfl, hmv⟩
  have Hb8 := Lib.hid ((Hb7.out.alloc hB7 _).trans (hmv.below (Hd7.out.below hbk) (by simp; omega)))
  obtain ⟨r8, hd8, _, _⟩ := hmv
  have Hd8 := Lib.hid (show IsD w8 B g s r8 (dE i a b f keep) from hd8)
  have hB8 : B ≤ w8.heap.size := by have := Hb8.out.size; have := HB.out; omega
  clear hd8 hbk
  go_wp2_with fail
  refine (Read_any B g s r8 (dE i a b f keep) i _ Hd8.out (by rw [Fa.out.1]; omega) Fa.out.2.1 (by rw [Fa.out.2.2.1]; omega)).mono ?_
  rw [dE_read keep hi]
  rintro e w9 ⟨pb, rfl, hbl, hbk, hb⟩
  have Hb9 := Lib.hid (Hb8.out.trans (hb.mono hB8))
  have Hp9 := Lib.hid (Blk.seen hbk)
  have hB9 : B ≤ w9.heap.size := by have := Hb9.out.size; have := HB.out; omega
  clear hbl hbk hb
  have hways : (we = 16 ∧ came f keep = 0) ∨ (we = 0 ∧ came f keep = kept [keep] 0) := by
    by_cases h0 : f = 0
    · subst h0
      exact .inl ⟨Hwe.out.symm.trans (dD_zero hi).1, if_pos rfl⟩
    · exact .inr ⟨Hwe.out.symm.trans (dD_pos hi (by omega)).1, if_neg h0⟩
  have hcl := came_le f keep
  obtain ⟨n, hn⟩ : ∃ n, came f keep = n := ⟨_, rfl⟩
  obtain ⟨P, hP⟩ : ∃ P, (full b).take n ++ (full a).drop n = P := ⟨_, rfl⟩
  rw [hn] at hways hcl Hp9
  rw [hP] at Hp9
  have hl1 : ((full b).take n).length = n := by rw [List.length_take, full_length]; omega
  have ht1 : P.take n = (full b).take n := by rw [← hP, List.take_left' hl1]
  have hd1 : P.drop n = (full a).drop n := by rw [← hP, List.drop_left' hl1]
  have hl2 : ((full a).drop n).length = 64 - n := by rw [List.length_drop, full_length]
  have hs1 : Seen w9 (some ⟨pb, 0, none⟩) (bytesV ((full b).take n)) := by rw [← ht1]; exact seen_take n Hp9.out
  have hs2 : Seen w9 (some ⟨pb, n, none⟩) (bytesV ((full a).drop n)) := by rw [← hd1]; exact seen_off n Hp9.out
  have Hs1 := Lib.hid hs1; have Hs2 := Lib.hid hs2; have Hln1 := Lib.hid hl1; have Hln2 := Lib.hid hl2
  have Hcl := Lib.hid hcl
  clear ht1 hd1 hl1 hl2 hs1 hs2 hcl hP hn
  have hk0 : (keep < 0 ∧ kept [keep] 0 = 0) ∨ (∃ q : Nat, keep = (q : Int) ∧ ((0 : Int) < (q : Int) ∧ (q : Int) < 64) ∧ kept [keep] 0 = q) ∨ (keep = 0 ∧ kept [keep] 0 = 0) ∨ (keep = 64 ∧ kept [keep] 0 = 64) ∨ (64 < keep ∧ kept [keep] 0 = 64) := by
    rcases kept_ways (keeps := [keep]) (k := 0) rfl with h | ⟨q, h1, h2, h3⟩ | h
    · exact .inl h
    · by_cases h4 : q = 64
      · exact .inr (.inr (.inr (.inl ⟨by omega, by omega⟩)))
      · by_cases h5 : q = 0
        · exact .inr (.inr (.inl ⟨by omega, by omega⟩))
        · exact .inr (.inl ⟨q, h1, ⟨by omega, by omega⟩, h3⟩)
    · exact .inr (.inr (.inr (.inr h)))
  obtain ⟨m0, hm0⟩ : ∃ m0, kept [keep] 0 = m0 := ⟨_, rfl⟩
  rw [hm0] at hways hk0
  clear hm0 k1 k2 ht hu hi
  have Hways := Lib.hid hways; clear hways
  go_upto_region 13 with fail
  go_cut [16] (fun s16 wx => s16 = .int .i64 (m0 : Int) ∧ w9 = wx)
  case first =>
    rcases hk0 with ⟨hk, rfl⟩ | ⟨q, rfl, ⟨hk0, hk1⟩, rfl⟩ | ⟨rfl, rfl⟩ | ⟨rfl, rfl⟩ | ⟨hk, rfl⟩
    all_goals
      go_wp2
      go_meet
      exact ⟨rfl, rfl⟩
  case rest =>
    obtain ⟨rfl, rfl⟩ := hcut
    have hways := Hways.out
    go_upto_if 65 with fail
    go_cut [16] (fun s16 wx => s16 = .int .i64 (n : Int) ∧ w9 = wx)
    case first =>
      rcases hways with ⟨rfl, rfl⟩ | ⟨rfl, rfl⟩
      all_goals
        go_wp2
        go_meet
        exact ⟨rfl, rfl⟩
    case rest =>
      clear hways
      obtain ⟨rfl, rfl⟩ := hcut
      go_upto_region 16 with fail
      have hcl := Hcl.out
      have n0 : (0 : Int) ≤ (n : Int) := by omega
      have n1 : (n : Int) ≤ 64 := by omega
      clear ht1 hu1 hB1 hB2 hB3 hB4 hB5 hB6 hB7 hB8
      have HB9 := Lib.hid hB9; clear hB9
      by_cases hn64 : 64 = n
      · subst hn64
        go_region_held3 (fun w' => Below w9.heap.size w9 w')
          (first | exact (Below.refl _ _).drew | exact HA.out | exact HB2.out | exact HC.out | exact HD.out | exact HE.out)
          (first
            | (go_at_call_of 7 (Value.int .u8 (b.toNat : Int)); refine (full_any b w9.drew).mono ?_; rintro e w10 ⟨rfl, hfl, hbx⟩; have Hf10 := Lib.hid (Blk.seen hfl); have HA := Lib.hid ((Below.refl w9.heap.size w9).drew.trans hbx); clear hfl hbx)
            | (go_at_call 12; refine (Same_any (some ⟨pb, 0, none⟩) (some ⟨w11.heap.size, 0, none⟩) 0 0 0 0 [] [] w12 rfl rfl (Seen.nil _ _) (Seen.nil _ _) (by omega)).mono ?_; rintro e w13 ⟨rfl, hbx⟩; rw [decide_eq_true rfl]; have HD := Lib.hid (HC.out.trans (hbx.mono HC.out.size)); clear hbx)
            | (go_at_call 12; refine (Same_any _ _ _ _ _ _ ((full b).take 64) ((full b).take 64) w10 Hln1.out Hln1.out (Hs1.out.below HA.out) (seen_take _ Hf10.out) (by omega)).mono ?_; rintro e w11 ⟨rfl, hbx⟩; rw [decide_eq_true rfl]; have HB2 := Lib.hid (HA.out.trans (hbx.mono HA.out.size)); clear hbx)
            | (go_at_call_of 7 (Value.int .u8 (a.toNat : Int)); refine (full_any a w11).mono ?_; rintro e w12 ⟨rfl, hfl, hbx⟩; have Hf12 := Lib.hid (Blk.seen hfl); have HC := Lib.hid (HB2.out.trans (hbx.mono HB2.out.size)); clear hfl hbx)
            | (go_at_call 13; refine (awake_any _).mono ?_; rintro e w14 ⟨rfl, hbx⟩; have HE := Lib.hid (HD.out.trans (hbx.mono HD.out.size)); clear hbx))
        all_goals
          go_wp2
          go_ret
          rw [HB.out]
          exact ⟨rfl, Hb9.out.trans (HE.out.mono HB9.out)⟩
      · go_region_held3 (fun w' => Below w9.heap.size w9 w')
          (first | exact (Below.refl _ _).drew | exact HA.out | exact HB2.out | exact HC.out | exact HD.out | exact HE.out)
          (first
            | (go_at_call_of 7 (Value.int .u8 (b.toNat : Int)); refine (full_any b w9.drew).mono ?_; rintro e w10 ⟨rfl, hfl, hbx⟩; have Hf10 := Lib.hid (Blk.seen hfl); have HA := Lib.hid ((Below.refl w9.heap.size w9).drew.trans hbx); clear hfl hbx)
            | (go_at_call 12; refine (Same_any _ _ _ _ _ _ ((full a).drop n) ((full a).drop n) w12 Hln2.out Hln2.out (Hs2.out.below HC.out) (seen_off _ Hf12.out) (by omega)).mono ?_; rintro e w13 ⟨rfl, hbx⟩; rw [decide_eq_true rfl]; have HD := Lib.hid (HC.out.trans (hbx.mono HC.out.size)); clear hbx)
            | (go_at_call 12; refine (Same_any _ _ _ _ _ _ ((full b).take n) ((full b).take n) w10 Hln1.out Hln1.out (Hs1.out.below HA.out) (seen_take _ Hf10.out) (by omega)).mono ?_; rintro e w11 ⟨rfl, hbx⟩; rw [decide_eq_true rfl]; have HB2 := Lib.hid (HA.out.trans (hbx.mono HA.out.size)); clear hbx)
            | (go_at_call_of 7 (Value.int .u8 (a.toNat : Int)); refine (full_any a w11).mono ?_; rintro e w12 ⟨rfl, hfl, hbx⟩; have Hf12 := Lib.hid (Blk.seen hfl); have HC := Lib.hid (HB2.out.trans (hbx.mono HB2.out.size)); clear hfl hbx)
            | (go_at_call 13; refine (awake_any _).mono ?_; rintro e w14 ⟨rfl, hbx⟩; have HE := Lib.hid (HD.out.trans (hbx.mono HD.out.size)); clear hbx))
        all_goals
          go_wp2
          go_ret
          rw [HB.out]
          exact ⟨rfl, Hb9.out.trans (HE.out.mono HB9.out)⟩

theorem u8_of {a : Int} (h : (Lit.int .u8 a).wf = true) : ∃ x : UInt8, a = (x.toNat : Int) := by
  have hb := bounds_u8 h
  exact ⟨UInt8.ofNat a.toNat, by rw [UInt8.toNat_ofNat']; omega⟩
theorem walk (a0 a1 a2 a3 a4 : Int) (w : World) (w0 : (Lit.int .u8 a0).wf = true) (w1 : (Lit.int .u8 a1).wf = true) (w2 : (Lit.int .u8 a2).wf = true) (w3 : (Lit.int .u8 a3).wf = true) (w4 : (Lit.int .i64 a4).wf = true) :
    Calls Try.prog 3 #[.int .u8 a0, .int .u8 a1, .int .u8 a2, .int .u8 a3, .int .i64 a4] w fun e w' => e = .returned (.bool true) ∧ Below w.heap.size w w' := by
  obtain ⟨a, rfl⟩ := u8_of w0
  obtain ⟨b, rfl⟩ := u8_of w1
  have b2 := bounds_u8 w2
  have b3 := bounds_u8 w3
  have b4 := bounds_i64 w4
  obtain ⟨t, rfl⟩ : ∃ t : Nat, a2 = (t : Int) := ⟨a2.toNat, by omega⟩
  obtain ⟨u, rfl⟩ : ∃ u : Nat, a3 = (u : Int) := ⟨a3.toNat, by omega⟩
  exact walk_main a b t u (t % 4) (u % 3) a4 w (by rw [Int.tmod_eq_emod_of_nonneg (by omega)]; omega) (by rw [Int.tmod_eq_emod_of_nonneg (by omega)]; omega) (by omega) (by omega) (by omega) (by omega) b4.1 b4.2

/-! ### THE ROW -/
theorem own : ownKnob Try.prog.godebug = none := by kernel_rfl

set_option maxRecDepth 100000 in
theorem lifted (os : Os) (started : os.Started) (H : Type) (enc : TypeId × Value → H) :
    ReturnsInHanded {} Try.checked os 3 .any (Rows.sectorKeepsSpec.pre6 enc Try.prog Try.f3 Rows.sectorKeepsRow.domain false) (Rows.sectorKeepsSpec.post enc Try.prog Try.f3 false true false false) := by
  refine returnsInHanded_of_change (C := Try.checked) own started (by kernel_rfl) Try.func3
    (ChangeSpec.witness6 (enc := enc) (C := Try.checked) false ⟨#[], #[.int .u8 0, .int .u8 0, .int .u8 0, .int .u8 0, .int .i64 0], []⟩ 8 (by kernel_rfl) (by kernel_rfl) (by kernel_rfl) (by kernel_rfl)) ?_
  intro W base args ds gs before hval0 hW hcnd _
  have hval : ∀ (j : Nat) t v, Try.f3.params[j]? = some t → args[j]? = some v → Value.okWide Try.prog W .any base t v := hval0
  have hW' := hW
  obtain ⟨p, q, hA0, hV, rfl, hfz, hnd⟩ := hW
  have hA : DataW.TrodAll enc Try.prog W 0 (fun _ => true) true Try.f3.params.toList args.toList ds p := hA0
  rw [Try.params3] at hA hval
  obtain ⟨v0, vs0, d0, ds0, p0, q0, hargs, rfl, rfl, h0, r0⟩ := trodAll_cons hA
  obtain ⟨v1, vs1, d1, ds1, p1, q1, rfl, rfl, rfl, h1, r1⟩ := trodAll_cons r0
  obtain ⟨v2, vs2, d2, ds2, p2, q2, rfl, rfl, rfl, h2, r2⟩ := trodAll_cons r1
  obtain ⟨v3, vs3, d3, ds3, p3, q3, rfl, rfl, rfl, h3, r3⟩ := trodAll_cons r2
  obtain ⟨v4, vs4, d4, ds4, p4, q4, rfl, rfl, rfl, h4, r4⟩ := trodAll_cons r3
  obtain ⟨rfl, rfl, rfl⟩ := trodAll_nil r4
  obtain rfl : args = #[v0, v1, v2, v3, v4] := by cases args; simp_all
  obtain ⟨rfl, rfl⟩ := trodVars_none hV
  obtain ⟨a0, rfl, rfl, rfl, w0⟩ := open_int Try.underlying5 (hval 0 5 v0 rfl rfl) h0
  obtain ⟨a1, rfl, rfl, rfl, w1⟩ := open_int Try.underlying5 (hval 1 5 v1 rfl rfl) h1
  obtain ⟨a2, rfl, rfl, rfl, w2⟩ := open_int Try.underlying5 (hval 2 5 v2 rfl rfl) h2
  obtain ⟨a3, rfl, rfl, rfl, w3⟩ := open_int Try.underlying5 (hval 3 5 v3 rfl rfl) h3
  obtain ⟨a4, rfl, rfl, rfl, w4⟩ := open_int Try.underlying3 (hval 4 3 v4 rfl rfl) h4
  refine (walk a0 a1 a2 a3 a4 W w0 w1 w2 w3 w4).mono fun e W' ⟨he, hg⟩ => ?_
  subst he
  exact ⟨_, rfl, law_post hW' rfl (by kernel_rfl) (by kernel_rfl) (by kernel_rfl) Try.underlying4 rfl rfl rfl hg⟩

theorem over : Rows.sectorKeepsRow.holds Try.pinned (OpenSpec.ofChange Rows.sectorKeepsSpec) :=
  OpenClaim.holds_of_wide 3 Try.f3 rfl rfl rfl rfl rfl rfl rfl ⟨rfl, rfl, rfl, rfl, rfl⟩ rfl rfl rfl rfl rfl (by kernel_rfl) Try.func3 (by kernel_rfl)
    (of_decide_eq_true (by kernel_rfl)) (by unfold Func.isWrapper; first | (rw [if_pos (by decide +kernel)]; kernel_rfl) | (rw [if_neg (by decide +kernel)]; exact ⟨rfl, rfl⟩))
    (fun os started H enc _ => lifted os started H enc)

theorem proved : Rows.SectorKeepsSaid :=
  over
#print axioms proved

end Go.Proofs.Ytoffmnphcleeoaa.sectorKeeps
