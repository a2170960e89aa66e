/-
  Contracts of journal.wipe and Open over any device whose power is on, with any fuse; of Scan and Open without power.
-/
import Derived.Test.YtjekcaoonaniaaaGreatJouScan
import Derived.Test.YtjekcaoonaniaaaGreatJouD
namespace Go.Proofs.YtjekcaoonaniaaaGreat
open Go.ChangeShapes Go.WideShapes Go.ChangeAt Go.RowKit
set_option linter.unusedVariables false

def zeros64 : List UInt8 := List.replicate 64 0
/-- so many sectors from a on made zeros; wr: was one written -/
def Dv.wiped : Dv → Nat → Nat → Bool → Nat × Dv
  | d, a, 0, wr => if wr = true then (d.flushE, d.flush) else (0, d)
  | d, a, k + 1, wr => if newest d.L d.S a = zeros64 then Dv.wiped d (a + 1) k wr
      else if d.writeE a zeros64 = 0 then Dv.wiped (d.write a zeros64) (a + 1) k true
      else (d.writeE a zeros64, d.write a zeros64)
theorem writeE_zero {d : Dv} {i : Int} {bs : List UInt8} (h : d.writeE i bs = 0) : (d.write i bs).down = false := by
  unfold Dv.writeE at h
  unfold Dv.write
  split at h
  · cases h
  · rename_i hd
    rw [if_neg hd]
    split
    · simpa using hd
    · simpa using hd
theorem wiped_n : ∀ (k : Nat) (d : Dv) (a : Nat) (wr : Bool), (d.wiped a k wr).2.n = d.n
  | 0, d, a, wr => by
    rw [Dv.wiped]
    split
    · unfold Dv.flush
      split
      · exact Dv.burnt_n d
      · exact Dv.burnt_n d
    · rfl
  | k + 1, d, a, wr => by
    rw [Dv.wiped]
    split
    · exact wiped_n k d _ _
    · split
      · rw [wiped_n k, write_n]
      · exact write_n ..
theorem wiped_e : ∀ (k : Nat) (d : Dv) (a : Nat) (wr : Bool), (d.wiped a k wr).1 ≤ 16
  | 0, d, a, wr => by
    rw [Dv.wiped]
    split
    · show d.flushE ≤ 16
      unfold Dv.flushE
      split <;> omega
    · exact Nat.zero_le _
  | k + 1, d, a, wr => by
    rw [Dv.wiped]
    split
    · exact wiped_e k d _ _
    · split
      · exact wiped_e k ..
      · show d.writeE _ _ ≤ 16
        unfold Dv.writeE
        split
        · omega
        · split <;> omega
/-- a device without a fuse: all of these sectors are zeros then; what waits is as before, or nothing -/
theorem up_wiped : ∀ (k : Nat) (d : Dv) (a : Nat) (wr : Bool), d.Up → d.Ok → a + k ≤ d.n →
    ∃ d', d.wiped a k wr = (0, d') ∧ d'.Up ∧ d'.Ok ∧ d'.n = d.n ∧ d'.view = put d.view (64 * a) (List.replicate (64 * k) 0) ∧ (d'.L = [] ∨ d' = d)
  | 0, d, a, wr, h, ho, hk => by
    obtain ⟨f1, f2⟩ := up_flush h
    rw [Dv.wiped]
    split
    · refine ⟨d.flush, by rw [f1], by rw [f2]; exact h, ho.flush, by rw [f2], ?_, .inl (by rw [f2])⟩
      rw [f2]
      show d.view = _
      simp [put]
    · exact ⟨d, rfl, h, ho, rfl, by simp [put], .inr rfl⟩
  | k + 1, d, a, wr, h, ho, hk => by
    have hv := view_length ho
    have hsp : ∀ S : List UInt8, S.length = d.n * 64 → put (put S (64 * a) zeros64) (64 * (a + 1)) (List.replicate (64 * k) 0) = put S (64 * a) (List.replicate (64 * (k + 1)) 0) := fun S hS => by
      have := put_put (S := S) (a := zeros64) (b := List.replicate (64 * k) 0) (o := 64 * a) (by simp [zeros64]; omega)
      rw [show 64 * a + zeros64.length = 64 * (a + 1) by simp [zeros64]; omega] at this
      rw [this, zeros64, List.replicate_append_replicate, show 64 + 64 * k = 64 * (k + 1) by omega]
    rw [Dv.wiped]
    split
    · rename_i hz
      obtain ⟨d', h1, h2, h3, h4, h5, h6⟩ := up_wiped k d (a + 1) wr h ho (by omega)
      refine ⟨d', h1, h2, h3, h4, ?_, h6⟩
      rw [h5, ← hsp d.view hv]
      congr 1
      rw [newest_view ho (by omega)] at hz
      apply List.ext_getElem?
      intro i
      unfold put
      by_cases hi : i < 64 * a
      · rw [List.append_assoc, List.getElem?_append_left (by rw [List.length_take]; omega), List.getElem?_take, if_pos hi]
      · have hl : (d.view.take (64 * a)).length = 64 * a := by rw [List.length_take, hv]; omega
        rw [List.append_assoc, List.getElem?_append_right (by omega), hl]
        by_cases hi2 : i - 64 * a < 64
        · rw [List.getElem?_append_left (by simp [zeros64]; exact hi2), ← hz, sec, List.getElem?_take, if_pos hi2, List.getElem?_drop]
          rw [show 64 * a + (i - 64 * a) = i by omega]
        · rw [List.getElem?_append_right (by simp [zeros64]; omega), List.getElem?_drop]
          rw [show 64 * a + zeros64.length + (i - 64 * a - zeros64.length) = i by simp [zeros64]; omega]
    · obtain ⟨w1, w2⟩ := up_write h (i := a) (bs := zeros64) (by omega) (by simp [zeros64])
      rw [if_pos w1]
      have hup : (d.write a zeros64).Up := by rw [w2]; exact h
      have hok := ho.write a zeros64
      have hn : (d.write a zeros64).n = d.n := write_n ..
      obtain ⟨d', h1, h2, h3, h4, h5, h6⟩ := up_wiped k (d.write a zeros64) (a + 1) true hup hok (by omega)
      refine ⟨d', h1, h2, h3, by rw [h4, hn], ?_, .inl ?_⟩
      · rw [h5, w2, view_more d [(a, zeros64)] (fun p hp => by simp at hp; rw [hp]; simp [zeros64])]
        exact hsp d.view hv
      · rcases h6 with h6 | h6
        · exact h6
        · exact up_wiped_flushed k _ (a + 1) hup hok (by omega) h1
where
  up_wiped_flushed : ∀ (k : Nat) (d : Dv) (a : Nat), d.Up → d.Ok → a + k ≤ d.n → ∀ {d' : Dv}, d.wiped a k true = (0, d') → d'.L = []
  | 0, d, a, h, _, _, d', e => by
    rw [Dv.wiped, if_pos rfl] at e
    obtain ⟨f1, f2⟩ := up_flush h
    injection e with _ e
    rw [← e, f2]
  | k + 1, d, a, h, ho, hk, d', e => by
    rw [Dv.wiped] at e
    split at e
    · exact up_wiped_flushed k d (a + 1) h ho (by omega) e
    · obtain ⟨w1, w2⟩ := up_write h (i := a) (bs := zeros64) (by omega) (by simp [zeros64])
      rw [if_pos w1] at e
      exact up_wiped_flushed k _ (a + 1) (by rw [w2]; exact h) (ho.write ..) (by rw [write_n]; omega) e
theorem write_down0 {d : Dv} {i : Nat} {bs : List UInt8} (h : d.writeE i bs = 0) : (d.write i bs).down = false := writeE_zero h

set_option maxRecDepth 100000 in
set_option maxHeartbeats 4000000 in
theorem wipe_any (B g s : Nat) (r : Option Nat) (d : Dv) (a b : Nat) (w : World) (h : IsD w B g s r d) (hL : d.L.length ≤ 800000) (hd : d.down = false) (hab : a ≤ b) (hb : b ≤ d.n) :
    Calls Tryz.prog 82 #[.pointer (some ⟨g, 0, none⟩), .int .i64 (a : Int), .int .i64 (b : Int)] w fun e w' => e = .returned (.int .i64 ((d.wiped a (b - a) false).1 : Int)) ∧ MovedD B g s r (d.wiped a (b - a) false).2 w w' := by
  have H := Lib.hid h; clear h
  have hn := H.out.1.n
  have Hd := Lib.hid hd
  clear hd
  have hlt := H.out.lt
  have Hlt := Lib.hid hlt; clear hlt
  obtain ⟨i0, hi, hz0, hz1, hz2⟩ := info_parts u8_info
  go_enter Tryz.func82, Tryz.ntmps82
  go_wp2_with (at_make; go_loud (refine wpList_make_full _ rfl (.const (.int .i64 64)) (.const (.int .i64 64)) _ rfl w.heap.size 5 i0 (.int .u8 0) 1 Tryz.underlying31 hi hz0 hz1 .i64 .i64 _ _ 64 rfl rfl (by omega) (by omega) (by rw [hz2]; omega) (by unfold maxLen; omega) (Nat.le_refl _) ?_; intro w1 hown hgr; rw [made_u8] at hown; have Hs1 := Lib.hid (show Seen w1 (some ⟨w.heap.size, 0, none⟩) (bytesV zeros64) from Seen.of_own hown); have Hown1 := Lib.hid hown; have Hb1 := Lib.hid ((Below.refl w.heap.size w).grown hgr (Nat.le_refl _) (fun k e => by cases e)); clear hown hgr))
  have Hd1 := Lib.hid (H.out.below Hb1.out)
  have hz1lt : w.heap.size < w1.heap.size := (Hown1.out.lt w.heap.size rfl).2
  clear Hown1
  go_loopw [8, 9] (fun bv iv wr => ∃ (k : Nat) (d' : Dv) (wrb : Bool), a ≤ k ∧ k ≤ b ∧ bv = .bool wrb ∧ iv = .int .i64 (k : Int) ∧ d.wiped a (b - a) false = d'.wiped k (b - k) wrb ∧ MovedD B g s r d' w1 wr ∧ d'.down = false ∧ d'.n = d.n ∧ d'.L.length ≤ d.L.length + (k - a)) (fun _ iv _ => b - (intOf iv).toNat)
  case atStart => exact ⟨a, d, false, Nat.le_refl _, hab, rfl, rfl, rfl, MovedD.refl Hd1.out, Hd.out, rfl, by omega⟩
  case round =>
    obtain ⟨k, d', wrb, hak, hkb, rfl, rfl, hp, hmv, hdn', hn', hL'⟩ := hrel
    obtain ⟨r1, hd1, hr1, ht1⟩ := hmv
    have Hp := Lib.hid hp; have Hdr := Lib.hid hd1; have Hr1 := Lib.hid hr1; have Ht1 := Lib.hid ht1; have Hdn := Lib.hid hdn'
    have Hfin := Lib.hid (show ∀ w6 d2, MovedD B g s r1 d2 wr w6 → MovedD B g s r d2 w w6 from fun w6 d2 hm => by
      refine MovedD.step (d := d2) (fun k e => .inl e) (Turned.of_below Hb1.out) ?_
      exact MovedD.step (d := d2) Hr1.out Ht1.out hm)
    have Hloop := Lib.hid (show ∀ w6 d2, MovedD B g s r1 d2 wr w6 → MovedD B g s r d2 w1 w6 from fun w6 d2 hm => MovedD.step (d := d2) Hr1.out Ht1.out hm)
    have Hs2 := Lib.hid (show Seen wr (some ⟨w.heap.size, 0, none⟩) (bytesV zeros64) from Ht1.out.seen Hs1.out (fun g' o e => by
      injection e with e; injection e with e1 _
      subst e1
      have := Hlt.out
      rintro (e | e | e)
      · omega
      · omega
      · have := (Hlt.out.2.2.2.2 _ e).2; omega))
    clear hp hd1 hr1 ht1 hdn'
    by_cases hk : k < b
    · have hrd := Read_any B g s r1 d' k wr Hdr.out (by omega) Hdn.out (by omega)
      have hnl : (newest d'.L d'.S k).length = 64 := newest_length Hdr.out.1.S Hdr.out.1.L (by omega)
      have hstep : b - k = (b - (k + 1)) + 1 := by omega
      have Hstep := Lib.hid hstep
      obtain ⟨cn, hcn⟩ : ∃ cn, newest d'.L d'.S k = cn := ⟨_, rfl⟩
      rw [hcn] at hrd hnl
      have Hcn := Lib.hid hcn
      have Hrd := Lib.hid hrd; have Hnl := Lib.hid hnl
      have Hzl := Lib.hid (show zeros64.length = 64 from List.length_replicate)
      clear hrd hnl hstep hcn
      go_wp2_with (first
        | (go_at_call 31; refine Hrd.out.mono ?_; rintro e w3 ⟨pb, rfl, hpb, hblk, hb3⟩; have Hblk := Lib.hid (Blk.seen hblk); have Hb3 := Lib.hid hb3; have Hs3 := Lib.hid (Hs2.out.below hb3); clear hblk hb3))
      refine (BytesEqual_any (some ⟨pb, 0, none⟩) (some ⟨w.heap.size, 0, none⟩) 64 64 64 64 cn zeros64 w3 Hnl.out Hzl.out Hblk.out Hs3.out).mono ?_
      rintro e w4 ⟨rfl, rfl⟩
      by_cases hz : cn = zeros64
      · rw [decide_eq_true hz]
        have hw : d'.wiped k (b - k) wrb = d'.wiped (k + 1) (b - (k + 1)) wrb := by rw [Hstep.out, Dv.wiped, if_pos (by rw [Hcn.out]; exact hz)]
        have Hw := Lib.hid hw
        clear hz hw
        go_wp2
        go_roundw
        case rel => exact ⟨k + 1, d', wrb, by omega, by omega, rfl, by go_num, Hp.out.trans Hw.out, Hloop.out w3 d' (MovedD.step (d := d') (fun k e => .inl e) (Turned.of_below Hb3.out) (MovedD.refl (Hdr.out.below Hb3.out))), Hdn.out, hn', by omega⟩
        case measure => simp [intOf]; omega
      · rw [decide_eq_false hz]
        have hw16 := writeE_ways d' (i := k) (bs := zeros64) (by omega) Hzl.out
        have hwr := Write_any B g s r1 d' (k : Int) (some ⟨w.heap.size, 0, none⟩) 64 64 zeros64 w3 (Hdr.out.below Hb3.out) (by omega) (by omega) (by omega) Hzl.out (by omega) (by have := Hb3.out.size; have := Hdr.out.lt; omega) Hs3.out (fun gb ob e => by
          injection e with e; injection e with e1 _
          subst e1
          have := Hlt.out
          refine ⟨by omega, by omega, fun e => ?_⟩
          rcases Hr1.out _ e with e | e
          · have := (Hlt.out.2.2.2.2 _ e).2; omega
          · omega)
        have Hwr := Lib.hid hwr
        have Hwn := Lib.hid (write_n d' (k : Int) zeros64)
        have HwL := Lib.hid (write_L d' (k : Int) zeros64)
        have Hmm := Lib.hid (show ∀ w6 d2, MovedD B g s r1 d2 w3 w6 → MovedD B g s r1 d2 wr w6 from fun w6 d2 hm => MovedD.step (d := d2) (fun k e => .inl e) (Turned.of_below Hb3.out) hm)
        have Hz := Lib.hid (show ¬ newest d'.L d'.S k = zeros64 by rw [Hcn.out]; exact hz)
        clear hwr hz
        rcases hw16 with hw0 | hw0
        · have hw : d'.wiped k (b - k) wrb = (d'.write k zeros64).wiped (k + 1) (b - (k + 1)) true := by rw [Hstep.out, Dv.wiped, if_neg Hz.out, if_pos hw0]
          have Hw := Lib.hid hw; have Hw0 := Lib.hid hw0
          clear hw hw0
          go_wp2_with (go_at_call 61; refine Hwr.out.mono ?_; rw [Hw0.out]; rintro e w6 ⟨rfl, hmv⟩; have Hm6 := Lib.hid (Hloop.out w6 _ (Hmm.out w6 _ hmv)); clear hmv)
          go_roundw
          case rel => exact ⟨k + 1, d'.write k zeros64, true, by omega, by omega, rfl, by go_num, Hp.out.trans Hw.out, Hm6.out, writeE_zero Hw0.out, by rw [Hwn.out]; exact hn', by have := HwL.out; omega⟩
          case measure => simp [intOf]; omega
        · have hw : d'.wiped k (b - k) wrb = (16, d'.write k zeros64) := by rw [Hstep.out, Dv.wiped, if_neg Hz.out, if_neg (by rw [hw0]; simp), hw0]
          have Hw := Lib.hid (Hp.out.trans hw); have Hw0 := Lib.hid hw0
          clear hw hw0
          go_wp2_with (go_at_call 61; refine Hwr.out.mono ?_; rw [Hw0.out]; rintro e w6 ⟨rfl, hmv⟩; have Hm6 := Lib.hid (Hfin.out w6 _ (Hmm.out w6 _ hmv)); clear hmv)
          go_ret
          rw [Hw.out]
          exact ⟨rfl, Hm6.out⟩
    · obtain rfl : k = b := by omega
      have hwb : d'.wiped k (k - k) wrb = if wrb = true then (d'.flushE, d'.flush) else (0, d') := by rw [Nat.sub_self, Dv.wiped]
      cases wrb with
      | false =>
        have Hw := Lib.hid (Hp.out.trans (hwb.trans (if_neg (by simp))))
        clear hwb
        go_wp2
        go_ret
        rw [Hw.out]
        exact ⟨rfl, Hfin.out wr d' (MovedD.refl Hdr.out)⟩
      | true =>
        have Hw := Lib.hid (Hp.out.trans (hwb.trans (if_pos rfl)))
        have Hfl := Lib.hid (Flush_any B g s r1 d' wr Hdr.out (by omega))
        clear hwb
        go_wp2_with (go_at_call 62; refine Hfl.out.mono ?_; rintro e w6 ⟨rfl, hmv⟩; have Hm6 := Lib.hid (Hfin.out w6 _ hmv); clear hmv)
        go_ret
        rw [Hw.out]
        exact ⟨rfl, Hm6.out⟩
end Go.Proofs.YtjekcaoonaniaaaGreat
