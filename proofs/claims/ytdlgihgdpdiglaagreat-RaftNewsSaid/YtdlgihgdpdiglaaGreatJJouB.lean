/-
  Joined: JouWipe, JouOpenG, JouPart, JouFlush. Conditions: each theorem's own.
-/
import Derived.Test.YtdlgihgdpdiglaaGreatJJouA
import Derived.Test.YtdlgihgdpdiglaaGreatJouAdd

section
namespace Go.Proofs.YtdlgihgdpdiglaaGreat
open Go.ChangeShapes Go.WideShapes Go.ChangeAt Go.RowKit
set_option linter.unusedVariables false

def zeros64 : List UInt8 := List.replicate 64 0
/-- so many sectors from a on made zeros; wr: was one written -/
def Dv.wiped : Dv → Nat → Nat → Bool → Nat × Dv
  | d, a, 0, wr => if wr = true then (d.flushE, d.flush) else (0, d)
  | d, a, k + 1, wr => if newest d.L d.S a = zeros64 then Dv.wiped d (a + 1) k wr
      else if d.writeE a zeros64 = 0 then Dv.wiped (d.write a zeros64) (a + 1) k true
      else (d.writeE a zeros64, d.write a zeros64)
theorem writeE_zero {d : Dv} {i : Int} {bs : List UInt8} (h : d.writeE i bs = 0) : (d.write i bs).down = false := by
  unfold Dv.writeE at h
  unfold Dv.write
  split at h
  · cases h
  · rename_i hd
    rw [if_neg hd]
    split
    · simpa using hd
    · simpa using hd
theorem wiped_n : ∀ (k : Nat) (d : Dv) (a : Nat) (wr : Bool), (d.wiped a k wr).2.n = d.n
  | 0, d, a, wr => by
    rw [Dv.wiped]
    split
    · unfold Dv.flush
      split
      · exact Dv.burnt_n d
      · exact Dv.burnt_n d
    · rfl
  | k + 1, d, a, wr => by
    rw [Dv.wiped]
    split
    · exact wiped_n k d _ _
    · split
      · rw [wiped_n k, write_n]
      · exact write_n ..
theorem wiped_e : ∀ (k : Nat) (d : Dv) (a : Nat) (wr : Bool), (d.wiped a k wr).1 ≤ 16
  | 0, d, a, wr => by
    rw [Dv.wiped]
    split
    · show d.flushE ≤ 16
      unfold Dv.flushE
      split <;> omega
    · exact Nat.zero_le _
  | k + 1, d, a, wr => by
    rw [Dv.wiped]
    split
    · exact wiped_e k d _ _
    · split
      · exact wiped_e k ..
      · show d.writeE _ _ ≤ 16
        unfold Dv.writeE
        split
        · omega
        · split <;> omega
/-- a device without a fuse: all of these sectors are zeros then; what waits is as before, or nothing -/
theorem up_wiped : ∀ (k : Nat) (d : Dv) (a : Nat) (wr : Bool), d.Up → d.Ok → a + k ≤ d.n →
    ∃ d', d.wiped a k wr = (0, d') ∧ d'.Up ∧ d'.Ok ∧ d'.n = d.n ∧ d'.view = put d.view (64 * a) (List.replicate (64 * k) 0) ∧ (d'.L = [] ∨ d' = d)
  | 0, d, a, wr, h, ho, hk => by
    obtain ⟨f1, f2⟩ := up_flush h
    rw [Dv.wiped]
    split
    · refine ⟨d.flush, by rw [f1], by rw [f2]; exact h, ho.flush, by rw [f2], ?_, .inl (by rw [f2])⟩
      rw [f2]
      show d.view = _
      simp [put]
    · exact ⟨d, rfl, h, ho, rfl, by simp [put], .inr rfl⟩
  | k + 1, d, a, wr, h, ho, hk => by
    have hv := view_length ho
    have hsp : ∀ S : List UInt8, S.length = d.n * 64 → put (put S (64 * a) zeros64) (64 * (a + 1)) (List.replicate (64 * k) 0) = put S (64 * a) (List.replicate (64 * (k + 1)) 0) := fun S hS => by
      have := put_put (S := S) (a := zeros64) (b := List.replicate (64 * k) 0) (o := 64 * a) (by simp [zeros64]; omega)
      rw [show 64 * a + zeros64.length = 64 * (a + 1) by simp [zeros64]; omega] at this
      rw [this, zeros64, List.replicate_append_replicate, show 64 + 64 * k = 64 * (k + 1) by omega]
    rw [Dv.wiped]
    split
    · rename_i hz
      obtain ⟨d', h1, h2, h3, h4, h5, h6⟩ := up_wiped k d (a + 1) wr h ho (by omega)
      refine ⟨d', h1, h2, h3, h4, ?_, h6⟩
      rw [h5, ← hsp d.view hv]
      congr 1
      rw [newest_view ho (by omega)] at hz
      apply List.ext_getElem?
      intro i
      unfold put
      by_cases hi : i < 64 * a
      · rw [List.append_assoc, List.getElem?_append_left (by rw [List.length_take]; omega), List.getElem?_take, if_pos hi]
      · have hl : (d.view.take (64 * a)).length = 64 * a := by rw [List.length_take, hv]; omega
        rw [List.append_assoc, List.getElem?_append_right (by omega), hl]
        by_cases hi2 : i - 64 * a < 64
        · rw [List.getElem?_append_left (by simp [zeros64]; exact hi2), ← hz, sec, List.getElem?_take, if_pos hi2, List.getElem?_drop]
          rw [show 64 * a + (i - 64 * a) = i by omega]
        · rw [List.getElem?_append_right (by simp [zeros64]; omega), List.getElem?_drop]
          rw [show 64 * a + zeros64.length + (i - 64 * a - zeros64.length) = i by simp [zeros64]; omega]
    · obtain ⟨w1, w2⟩ := up_write h (i := a) (bs := zeros64) (by omega) (by simp [zeros64])
      rw [if_pos w1]
      have hup : (d.write a zeros64).Up := by rw [w2]; exact h
      have hok := ho.write a zeros64
      have hn : (d.write a zeros64).n = d.n := write_n ..
      obtain ⟨d', h1, h2, h3, h4, h5, h6⟩ := up_wiped k (d.write a zeros64) (a + 1) true hup hok (by omega)
      refine ⟨d', h1, h2, h3, by rw [h4, hn], ?_, .inl ?_⟩
      · rw [h5, w2, view_more d [(a, zeros64)] (fun p hp => by simp at hp; rw [hp]; simp [zeros64])]
        exact hsp d.view hv
      · rcases h6 with h6 | h6
        · exact h6
        · exact up_wiped_flushed k _ (a + 1) hup hok (by omega) h1
where
  up_wiped_flushed : ∀ (k : Nat) (d : Dv) (a : Nat), d.Up → d.Ok → a + k ≤ d.n → ∀ {d' : Dv}, d.wiped a k true = (0, d') → d'.L = []
  | 0, d, a, h, _, _, d', e => by
    rw [Dv.wiped, if_pos rfl] at e
    obtain ⟨f1, f2⟩ := up_flush h
    injection e with _ e
    rw [← e, f2]
  | k + 1, d, a, h, ho, hk, d', e => by
    rw [Dv.wiped] at e
    split at e
    · exact up_wiped_flushed k d (a + 1) h ho (by omega) e
    · obtain ⟨w1, w2⟩ := up_write h (i := a) (bs := zeros64) (by omega) (by simp [zeros64])
      rw [if_pos w1] at e
      exact up_wiped_flushed k _ (a + 1) (by rw [w2]; exact h) (ho.write ..) (by rw [write_n]; omega) e
theorem write_down0 {d : Dv} {i : Nat} {bs : List UInt8} (h : d.writeE i bs = 0) : (d.write i bs).down = false := writeE_zero h

set_option maxRecDepth 100000 in
set_option maxHeartbeats 4000000 in
theorem wipe_any (B g s : Nat) (r : Option Nat) (d : Dv) (a b : Nat) (w : World) (h : IsD w B g s r d) (hL : d.L.length ≤ 800000) (hd : d.down = false) (hab : a ≤ b) (hb : b ≤ d.n) :
    Calls Tryz.prog 188 #[.pointer (some ⟨g, 0, none⟩), .int .i64 (a : Int), .int .i64 (b : Int)] w fun e w' => e = .returned (.int .i64 ((d.wiped a (b - a) false).1 : Int)) ∧ MovedD B g s r (d.wiped a (b - a) false).2 w w' := by
  have H := Lib.hid h; clear h
  have hn := H.out.1.n
  have Hd := Lib.hid hd
  clear hd
  have hlt := H.out.lt
  have Hlt := Lib.hid hlt; clear hlt
  obtain ⟨i0, hi, hz0, hz1, hz2⟩ := info_parts u8_info
  go_enter Tryz.func188, Tryz.ntmps188
  go_wp2_with (at_make; go_loud (refine wpList_make_full _ rfl (.const (.int .i64 64)) (.const (.int .i64 64)) _ rfl w.heap.size 5 i0 (.int .u8 0) 1 Tryz.underlying39 hi hz0 hz1 .i64 .i64 _ _ 64 rfl rfl (by omega) (by omega) (by rw [hz2]; omega) (by unfold maxLen; omega) (Nat.le_refl _) ?_; intro w1 hown hgr; rw [made_u8] at hown; have Hs1 := Lib.hid (show Seen w1 (some ⟨w.heap.size, 0, none⟩) (bytesV zeros64) from Seen.of_own hown); have Hown1 := Lib.hid hown; have Hb1 := Lib.hid ((Below.refl w.heap.size w).grown hgr (Nat.le_refl _) (fun k e => by cases e)); clear hown hgr))
  have Hd1 := Lib.hid (H.out.below Hb1.out)
  have hz1lt : w.heap.size < w1.heap.size := (Hown1.out.lt w.heap.size rfl).2
  clear Hown1
  go_loopw [8, 9] (fun bv iv wr => ∃ (k : Nat) (d' : Dv) (wrb : Bool), a ≤ k ∧ k ≤ b ∧ bv = .bool wrb ∧ iv = .int .i64 (k : Int) ∧ d.wiped a (b - a) false = d'.wiped k (b - k) wrb ∧ MovedD B g s r d' w1 wr ∧ d'.down = false ∧ d'.n = d.n ∧ d'.L.length ≤ d.L.length + (k - a)) (fun _ iv _ => b - (intOf iv).toNat)
  case atStart => exact ⟨a, d, false, Nat.le_refl _, hab, rfl, rfl, rfl, MovedD.refl Hd1.out, Hd.out, rfl, by omega⟩
  case round =>
    obtain ⟨k, d', wrb, hak, hkb, rfl, rfl, hp, hmv, hdn', hn', hL'⟩ := hrel
    obtain ⟨r1, hd1, hr1, ht1⟩ := hmv
    have Hp := Lib.hid hp; have Hdr := Lib.hid hd1; have Hr1 := Lib.hid hr1; have Ht1 := Lib.hid ht1; have Hdn := Lib.hid hdn'
    have Hfin := Lib.hid (show ∀ w6 d2, MovedD B g s r1 d2 wr w6 → MovedD B g s r d2 w w6 from fun w6 d2 hm => by
      refine MovedD.step (d := d2) (fun k e => .inl e) (Turned.of_below Hb1.out) ?_
      exact MovedD.step (d := d2) Hr1.out Ht1.out hm)
    have Hloop := Lib.hid (show ∀ w6 d2, MovedD B g s r1 d2 wr w6 → MovedD B g s r d2 w1 w6 from fun w6 d2 hm => MovedD.step (d := d2) Hr1.out Ht1.out hm)
    have Hs2 := Lib.hid (show Seen wr (some ⟨w.heap.size, 0, none⟩) (bytesV zeros64) from Ht1.out.seen Hs1.out (fun g' o e => by
      injection e with e; injection e with e1 _
      subst e1
      have := Hlt.out
      rintro (e | e | e)
      · omega
      · omega
      · have := (Hlt.out.2.2.2.2 _ e).2; omega))
    clear hp hd1 hr1 ht1 hdn'
    by_cases hk : k < b
    · have hrd := Read_any B g s r1 d' k wr Hdr.out (by omega) Hdn.out (by omega)
      have hnl : (newest d'.L d'.S k).length = 64 := newest_length Hdr.out.1.S Hdr.out.1.L (by omega)
      have hstep : b - k = (b - (k + 1)) + 1 := by omega
      have Hstep := Lib.hid hstep
      obtain ⟨cn, hcn⟩ : ∃ cn, newest d'.L d'.S k = cn := ⟨_, rfl⟩
      rw [hcn] at hrd hnl
      have Hcn := Lib.hid hcn
      have Hrd := Lib.hid hrd; have Hnl := Lib.hid hnl
      have Hzl := Lib.hid (show zeros64.length = 64 from List.length_replicate)
      clear hrd hnl hstep hcn
      go_wp2_with (first
        | (go_at_call 59; refine Hrd.out.mono ?_; rintro e w3 ⟨pb, rfl, hpb, hblk, hb3⟩; have Hblk := Lib.hid (Blk.seen hblk); have Hb3 := Lib.hid hb3; have Hs3 := Lib.hid (Hs2.out.below hb3); clear hblk hb3))
      refine (BytesEqual_any (some ⟨pb, 0, none⟩) (some ⟨w.heap.size, 0, none⟩) 64 64 64 64 cn zeros64 w3 Hnl.out Hzl.out Hblk.out Hs3.out).mono ?_
      rintro e w4 ⟨rfl, rfl⟩
      by_cases hz : cn = zeros64
      · rw [decide_eq_true hz]
        have hw : d'.wiped k (b - k) wrb = d'.wiped (k + 1) (b - (k + 1)) wrb := by rw [Hstep.out, Dv.wiped, if_pos (by rw [Hcn.out]; exact hz)]
        have Hw := Lib.hid hw
        clear hz hw
        go_wp2
        go_roundw
        case rel => exact ⟨k + 1, d', wrb, by omega, by omega, rfl, by go_num, Hp.out.trans Hw.out, Hloop.out w3 d' (MovedD.step (d := d') (fun k e => .inl e) (Turned.of_below Hb3.out) (MovedD.refl (Hdr.out.below Hb3.out))), Hdn.out, hn', by omega⟩
        case measure => simp [intOf]; omega
      · rw [decide_eq_false hz]
        have hw16 := writeE_ways d' (i := k) (bs := zeros64) (by omega) Hzl.out
        have hwr := Write_any B g s r1 d' (k : Int) (some ⟨w.heap.size, 0, none⟩) 64 64 zeros64 w3 (Hdr.out.below Hb3.out) (by omega) (by omega) (by omega) Hzl.out (by omega) (by have := Hb3.out.size; have := Hdr.out.lt; omega) Hs3.out (fun gb ob e => by
          injection e with e; injection e with e1 _
          subst e1
          have := Hlt.out
          refine ⟨by omega, by omega, fun e => ?_⟩
          rcases Hr1.out _ e with e | e
          · have := (Hlt.out.2.2.2.2 _ e).2; omega
          · omega)
        have Hwr := Lib.hid hwr
        have Hwn := Lib.hid (write_n d' (k : Int) zeros64)
        have HwL := Lib.hid (write_L d' (k : Int) zeros64)
        have Hmm := Lib.hid (show ∀ w6 d2, MovedD B g s r1 d2 w3 w6 → MovedD B g s r1 d2 wr w6 from fun w6 d2 hm => MovedD.step (d := d2) (fun k e => .inl e) (Turned.of_below Hb3.out) hm)
        have Hz := Lib.hid (show ¬ newest d'.L d'.S k = zeros64 by rw [Hcn.out]; exact hz)
        clear hwr hz
        rcases hw16 with hw0 | hw0
        · have hw : d'.wiped k (b - k) wrb = (d'.write k zeros64).wiped (k + 1) (b - (k + 1)) true := by rw [Hstep.out, Dv.wiped, if_neg Hz.out, if_pos hw0]
          have Hw := Lib.hid hw; have Hw0 := Lib.hid hw0
          clear hw hw0
          go_wp2_with (go_at_call 130; refine Hwr.out.mono ?_; rw [Hw0.out]; rintro e w6 ⟨rfl, hmv⟩; have Hm6 := Lib.hid (Hloop.out w6 _ (Hmm.out w6 _ hmv)); clear hmv)
          go_roundw
          case rel => exact ⟨k + 1, d'.write k zeros64, true, by omega, by omega, rfl, by go_num, Hp.out.trans Hw.out, Hm6.out, writeE_zero Hw0.out, by rw [Hwn.out]; exact hn', by have := HwL.out; omega⟩
          case measure => simp [intOf]; omega
        · have hw : d'.wiped k (b - k) wrb = (16, d'.write k zeros64) := by rw [Hstep.out, Dv.wiped, if_neg Hz.out, if_neg (by rw [hw0]; simp), hw0]
          have Hw := Lib.hid (Hp.out.trans hw); have Hw0 := Lib.hid hw0
          clear hw hw0
          go_wp2_with (go_at_call 130; refine Hwr.out.mono ?_; rw [Hw0.out]; rintro e w6 ⟨rfl, hmv⟩; have Hm6 := Lib.hid (Hfin.out w6 _ (Hmm.out w6 _ hmv)); clear hmv)
          go_ret
          rw [Hw.out]
          exact ⟨rfl, Hm6.out⟩
    · obtain rfl : k = b := by omega
      have hwb : d'.wiped k (k - k) wrb = if wrb = true then (d'.flushE, d'.flush) else (0, d') := by rw [Nat.sub_self, Dv.wiped]
      cases wrb with
      | false =>
        have Hw := Lib.hid (Hp.out.trans (hwb.trans (if_neg (by simp))))
        clear hwb
        go_wp2
        go_ret
        rw [Hw.out]
        exact ⟨rfl, Hfin.out wr d' (MovedD.refl Hdr.out)⟩
      | true =>
        have Hw := Lib.hid (Hp.out.trans (hwb.trans (if_pos rfl)))
        have Hfl := Lib.hid (Flush_any B g s r1 d' wr Hdr.out (by omega))
        clear hwb
        go_wp2_with (go_at_call 131; refine Hfl.out.mono ?_; rintro e w6 ⟨rfl, hmv⟩; have Hm6 := Lib.hid (Hfin.out w6 _ hmv); clear hmv)
        go_ret
        rw [Hw.out]
        exact ⟨rfl, Hm6.out⟩
end Go.Proofs.YtdlgihgdpdiglaaGreat
end

section
namespace Go.Proofs.YtdlgihgdpdiglaaGreat
open Go.ChangeShapes Go.WideShapes Go.ChangeAt Go.RowKit
set_option linter.unusedVariables false

theorem TextsAt.turned {p : Nat → Prop} {w0 w w' : World} {A : Option Addr} {n c : Nat} {ts : List (List UInt8)} (h : TextsAt w0 A n c ts w) (ht : Turned p w w') (hp : ∀ k, w0.heap.size ≤ k → ¬ p k) : TextsAt w0 A n c ts w' := by
  obtain ⟨h1, ls, h2, h3, h4, h5⟩ := h
  refine ⟨h1, ls, ht.own h2 (fun k hk => hp k (h2.lt k hk).1), h3.keep fun i A1 n1 c1 hi b hs => ht.seen hs fun g o e => hp g (h4 i A1 n1 c1 hi g o e), h4, fun i A1 n1 c1 hi g o e => ⟨Nat.lt_of_lt_of_le (h5 i A1 n1 c1 hi g o e).1 ht.size, (h5 i A1 n1 c1 hi g o e).2⟩⟩
theorem TextsAt.len {w0 w : World} {A : Option Addr} {n c : Nat} {ts : List (List UInt8)} (h : TextsAt w0 A n c ts w) : ts.length = n := h.1

/-- a journal as Open makes it -/
def Jn.opened (d : Dv) (gen a m : Nat) (ts : List (List UInt8)) : Jn := { d := d, gen := gen, k := ts.length, next := a + secsUp gen 0 ts, fin := a + m, L := [], dead := false }
/-- what Open hands back -/
def OpenRetJ (B g s : Nat) (r : Option Nat) (d : Dv) (a m gen : Nat) (w : World) (en : Ending) (w' : World) : Prop :=
  ∃ ts, Scanned gen (d.part a m) ts ∧ secsUp gen 0 ts ≤ m ∧
    (((d.wiped (a + secsUp gen 0 ts) (m - secsUp gen 0 ts) false).1 ≠ 0 ∧ en = .returned (.tuple #[.pointer none, .slice none 0 0, .int .i64 ((d.wiped (a + secsUp gen 0 ts) (m - secsUp gen 0 ts) false).1 : Int)]) ∧
        MovedD B g s r (d.wiped (a + secsUp gen 0 ts) (m - secsUp gen 0 ts) false).2 w w') ∨
     ((d.wiped (a + secsUp gen 0 ts) (m - secsUp gen 0 ts) false).1 = 0 ∧ ∃ jg A n c r', en = .returned (.tuple #[.pointer (some ⟨jg, 0, none⟩), .slice A n c, .int .i64 0]) ∧ w.heap.size ≤ jg ∧
        IsJ w' B g s r' jg none (Jn.opened (d.wiped (a + secsUp gen 0 ts) (m - secsUp gen 0 ts) false).2 gen a m ts) ∧ (∀ k, r' = some k → r = some k ∨ w.heap.size ≤ k) ∧ Turned (fun k => k = g ∨ k = s ∨ r = some k) w w' ∧ TextsAt w A n c ts w'))

set_option maxRecDepth 100000 in
theorem Scan_down (B g s : Nat) (r : Option Nat) (d : Dv) (a m gen : Nat) (w : World) (h : IsD w B g s r d) (hd : d.down = true) (ham : a + m ≤ d.n) (hg : gen ≤ 1099511627776) :
    Calls Tryz.prog 62 #[.pointer (some ⟨g, 0, none⟩), .int .i64 (a : Int), .int .i64 (m : Int), .int .i64 (gen : Int)] w fun e w' => e = .returned (.tuple #[.slice none 0 0, .int .i64 0, .int .i64 17]) ∧ w = w' := by
  have H := Lib.hid h; clear h
  have hn := H.out.1.n
  have hw : withinB d.n a m = true := decide_eq_true (by omega)
  have hc : decide ((0 : Int) ≤ gen ∧ (gen : Int) ≤ 1099511627776) = true := decide_eq_true (by omega)
  have Hw := Lib.hid hw; have Hc := Lib.hid hc; have Hd := Lib.hid hd
  clear hw hc hd
  go_enter Tryz.func62, Tryz.ntmps62
  go_wp2
  go_step3
  go_wp2_with (first
    | (go_at_call 122; refine (within_any B g s r d a m w H.out (by omega) (by omega) (by omega) (by omega)).mono ?_; rw [Hw.out]; rintro e w1 ⟨rfl, rfl⟩)
    | (go_at_call 123; refine (counts_any gen w (by omega) (by omega)).mono ?_; rw [Hc.out]; rintro e w1 ⟨rfl, rfl⟩)
    | (go_at_call 124; refine (Down_any B g s r d w H.out).mono ?_; rw [Hd.out]; rintro e w1 ⟨rfl, rfl⟩))
  simp only [Exit.noGoto]
  go_ret3
  exact ⟨rfl, rfl⟩

set_option maxRecDepth 100000 in
set_option maxHeartbeats 2000000 in
theorem Open_down (B g s : Nat) (r : Option Nat) (d : Dv) (a m gen : Nat) (w : World) (h : IsD w B g s r d) (hd : d.down = true) (ham : a + m ≤ d.n) (hg : gen ≤ 1099511627776) :
    Calls Tryz.prog 133 #[.pointer (some ⟨g, 0, none⟩), .int .i64 (a : Int), .int .i64 (m : Int), .int .i64 (gen : Int)] w fun e w' => e = .returned (.tuple #[.pointer none, .slice none 0 0, .int .i64 17]) ∧ w = w' := by
  have Hs := Lib.hid (Scan_down B g s r d a m gen w h hd ham hg)
  clear h hd
  go_enter Tryz.func133, Tryz.ntmps133
  go_wp2_with (go_at_call 62; refine Hs.out.mono ?_; rintro e w1 ⟨rfl, rfl⟩)
  go_ret3
  exact ⟨rfl, rfl⟩

set_option maxRecDepth 100000 in
set_option maxHeartbeats 4000000 in
theorem JOpen_any (B g s : Nat) (r : Option Nat) (d : Dv) (a m gen : Nat) (w : World) (h : IsD w B g s r d) (hL : d.L.length ≤ 800000) (hd : d.down = false) (ham : a + m ≤ d.n) (hg : gen ≤ 1099511627776) :
    Calls Tryz.prog 133 #[.pointer (some ⟨g, 0, none⟩), .int .i64 (a : Int), .int .i64 (m : Int), .int .i64 (gen : Int)] w (OpenRetJ B g s r d a m gen w) := by
  have H := Lib.hid h
  have hn := h.1.n
  have hlt := h.lt
  have Hlt := Lib.hid hlt
  have hpl := part_length h.1 ham
  have Hsc := Lib.hid (Scan_any B g s r d a m gen w h (by omega) hd ham hg)
  clear h hlt
  go_enter Tryz.func133, Tryz.ntmps133
  go_wp2_with fail
  refine Hsc.out.mono ?_
  rintro e w1 ⟨hb1, ts, A, n, c, rfl, hs, ht⟩
  have hu : secsUp gen 0 ts ≤ m := by have := hs.1.le; rw [hpl] at this; omega
  have hnts : n ≤ secsUp gen 0 ts := by have := secsUp_ge gen 0 ts; have := ht.1; omega
  have Hs := Lib.hid hs; have Ht := Lib.hid ht; have Hb1 := Lib.hid hb1
  have Hd1 := Lib.hid (H.out.below hb1)
  obtain ⟨u, hu'⟩ : ∃ u, secsUp gen 0 ts = u := ⟨_, rfl⟩
  have Hret := Lib.hid (show ∀ en w', (((d.wiped (a + u) (m - u) false).1 ≠ 0 ∧ en = .returned (.tuple #[.pointer none, .slice none 0 0, .int .i64 ((d.wiped (a + u) (m - u) false).1 : Int)]) ∧ MovedD B g s r (d.wiped (a + u) (m - u) false).2 w w') ∨
     ((d.wiped (a + u) (m - u) false).1 = 0 ∧ ∃ jg A n c r', en = .returned (.tuple #[.pointer (some ⟨jg, 0, none⟩), .slice A n c, .int .i64 0]) ∧ w.heap.size ≤ jg ∧
        IsJ w' B g s r' jg none { d := (d.wiped (a + u) (m - u) false).2, gen := gen, k := n, next := a + u, fin := a + m, L := [], dead := false } ∧ (∀ k, r' = some k → r = some k ∨ w.heap.size ≤ k) ∧ Turned (fun k => k = g ∨ k = s ∨ r = some k) w w' ∧ TextsAt w A n c ts w')) → OpenRetJ B g s r d a m gen w en w' from fun en w' h => by
    refine ⟨ts, hs, hu, ?_⟩
    rw [hu']
    rcases h with h | ⟨h0, jg, A', n', c', r', h1, h2, h3, h4, h5, h6⟩
    · exact .inl h
    · refine .inr ⟨h0, jg, A', n', c', r', h1, h2, ?_, h4, h5, h6⟩
      unfold Jn.opened
      rw [hu', ht.1]
      have hnn : n' = n := h6.1.symm.trans ht.1
      subst hnn
      exact h3)
  have Hwn := Lib.hid (wiped_n (m - u) d (a + u) false)
  obtain ⟨x, d', hwd⟩ : ∃ x d', d.wiped (a + u) (m - u) false = (x, d') := ⟨_, _, rfl⟩
  have hx16 := wiped_e (m - u) d (a + u) false
  have hwipe := wipe_any B g s r d (a + u) (a + m) w1 Hd1.out hL hd (by omega) ham
  rw [show a + m - (a + u) = m - u by omega, hwd] at hwipe
  rw [hwd] at Hret Hwn hx16
  rw [show ((a + u : Nat) : Int) = (a : Int) + (u : Int) by omega, show ((a + m : Nat) : Int) = (a : Int) + (m : Int) by omega] at hwipe
  have Hwipe := Lib.hid hwipe
  rw [hu']
  have hum : u ≤ m := by omega
  have hnu : n ≤ u := by omega
  clear hwipe hwd hu' hu hnts hs ht hb1 hpl hd
  by_cases hx : x = 0
  · subst hx
    go_wp2_with (go_at_call 188; refine Hwipe.out.mono ?_; rintro e w2 ⟨rfl, r2, hd2, hr2, ht2⟩; have Hd2 := Lib.hid hd2; have Hr2 := Lib.hid hr2; have Ht2 := Lib.hid ht2; clear hd2 hr2 ht2)
    go_ret3
    refine Hret.out _ _ (.inr ⟨trivial, w2.heap.size, A, n, c, r2, rfl, ?_, ?_, fun k e => ?_, ?_, ?_⟩)
    · have := Hb1.out.size; have := Ht2.out.size; omega
    · have hal := (Below.refl w2.heap.size w2).alloc (Nat.le_refl _) (.cells #[.pointer (some ⟨g, 0, none⟩), .int .i64 (gen : Int), .int .i64 (n : Int), .int .i64 ((a : Int) + (u : Int)), .int .i64 ((a : Int) + (m : Int)), .slice none 0 0, .bool false] 243)
      have hl := Hd2.out.lt
      refine ⟨⟨Hd2.out.1, hg, by show n ≤ _; omega, by show a + u ≤ a + m; omega, by show a + m ≤ d'.n; rw [Hwn.out]; exact ham, fun p hp => (by cases hp), Nat.zero_le _⟩, Hd2.out.below hal, by omega, by omega, by omega, fun e => ?_, by simp, by simp, by simp, fun k e => (by cases e), none, 0, ?_, World.ownsRow_nil _ _ _ _, rfl⟩
      · have := (hl.2.2.2.2 _ e).2; omega
      · exact heap_alloc_new _ _
    · rcases Hr2.out k e with e | e
      · exact .inl e
      · exact .inr (Nat.le_trans Hb1.out.size e)
    · refine ((Turned.of_below (p := fun k => k = g ∨ k = s ∨ r = some k) Hb1.out).trans Ht2.out (fun _ e => e) (fun _ _ e => e)).alloc _
    · have hl := Hlt.out
      refine (Ht.out.turned Ht2.out fun k hk => ?_).below ((Below.refl w2.heap.size w2).alloc (Nat.le_refl _) _)
      rintro (e | e | e)
      · omega
      · omega
      · have := (hl.2.2.2.2 k e).2; omega
  · have hxi : ((x : Int) != 0) = true := by simp; omega
    go_wp2_with (go_at_call 188; refine Hwipe.out.mono ?_; rintro e w2 ⟨rfl, hmv⟩; have Hm2 := Lib.hid hmv; clear hmv)
    go_ret3
    exact Hret.out _ _ (.inl ⟨hx, rfl, MovedD.step (d := d') (fun k e => .inl e) (Turned.of_below Hb1.out) Hm2.out⟩)
end Go.Proofs.YtdlgihgdpdiglaaGreat
end

section
namespace Go.Proofs.YtdlgihgdpdiglaaGreat
set_option linter.unusedVariables false

theorem stood_prefix {gen : Nat} : ∀ {k : Nat} {b : List UInt8} {ts : List (List UInt8)}, Stood gen k b ts → formsX 1 gen k ts <+: b
  | _, b, [], _ => List.nil_prefix
  | k, b, t :: r, h => by
    obtain ⟨c, hc⟩ := h.1.2
    obtain ⟨c2, hc2⟩ := stood_prefix h.2
    refine ⟨c2, ?_⟩
    simp only [formsX, List.append_assoc]
    rw [hc2, ← hc, List.drop_left' (form_length 1 gen k t)]
theorem stood_forms_ok {gen : Nat} : ∀ {k : Nat} {b : List UInt8} {ts : List (List UInt8)}, Stood gen k b ts → ∀ (i : Nat) t, ts[i]? = some t → formE gen ((k + i : Nat) : Int) t = 0
  | _, _, [], _, i, t, h => by simp at h
  | k, b, u :: r, hs, 0, t, h => by
    simp at h
    subst h
    simpa using hs.1.1
  | k, b, u :: r, hs, i + 1, t, h => by
    have := stood_forms_ok hs.2 i t (by simpa using h)
    rwa [show k + 1 + i = k + (i + 1) by omega] at this
theorem secsUp_append (gen : Nat) (b : List (List UInt8)) : ∀ (k : Nat) (a : List (List UInt8)), secsUp gen k (a ++ b) = secsUp gen k a + secsUp gen (k + a.length) b
  | k, [] => by simp [secsUp]
  | k, t :: r => by
    simp only [List.cons_append, secsUp, secsUp_append gen b (k + 1) r, List.length_cons]
    rw [show k + 1 + r.length = k + (r.length + 1) by omega]
    omega
theorem formsX_append (x : UInt8) (gen : Nat) (b : List (List UInt8)) : ∀ (k : Nat) (a : List (List UInt8)), formsX x gen k (a ++ b) = formsX x gen k a ++ formsX x gen (k + a.length) b
  | k, [] => by simp [formsX]
  | k, t :: r => by
    simp only [List.cons_append, formsX, formsX_append x gen b (k + 1) r, List.length_cons, List.append_assoc]
    rw [show k + 1 + r.length = k + (r.length + 1) by omega]

/-- what a device shows with x in the part from a on, so many sectors, and V elsewhere -/
def laidAt (V : List UInt8) (a m : Nat) (x : List UInt8) : List UInt8 := V.take (64 * a) ++ (x ++ V.drop (64 * (a + m)))
theorem laid_part {d : Dv} {V x : List UInt8} {n a m : Nat} (hv : d.view = laidAt V a m x) (hV : V.length = n * 64) (ham : a + m ≤ n) (hx : x.length = 64 * m) : d.part a m = x := by
  have h1 : (V.take (64 * a)).length = 64 * a := by rw [List.length_take, hV]; omega
  unfold Dv.part laidAt at *
  rw [hv, List.drop_left' h1, List.take_left' hx]
/-- another part shows what it showed -/
theorem laid_other {d : Dv} {V x : List UInt8} {n a m a' m' : Nat} (hv : d.view = laidAt V a m x) (hV : V.length = n * 64) (ham : a + m ≤ n) (hx : x.length = 64 * m) (hap : a' + m' ≤ a ∨ a + m ≤ a') : d.part a' m' = (V.drop (64 * a')).take (64 * m') := by
  have h1 : (V.take (64 * a)).length = 64 * a := by rw [List.length_take, hV]; omega
  unfold Dv.part
  rw [hv]
  unfold laidAt
  apply List.ext_getElem?
  intro i
  rw [List.getElem?_take, List.getElem?_take]
  split
  · rename_i hi
    rw [List.getElem?_drop, List.getElem?_drop]
    rcases hap with h | h
    · rw [List.getElem?_append_left (by rw [h1]; omega), List.getElem?_take, if_pos (by omega)]
    · rw [List.getElem?_append_right (by rw [h1]; omega), h1, List.getElem?_append_right (by rw [hx]; omega), hx, List.getElem?_drop]
      congr 1
      omega
  · rfl

/-- a journal of a part: os stood there, whole; ts were added since, and not flushed -/
structure RunP (J : Jn) (n a m gen : Nat) (V : List UInt8) (os ts : List (List UInt8)) : Prop where
  ok : J.Ok
  up : J.d.Up
  dn : J.d.n = n
  jgen : J.gen = gen
  jk : J.k = os.length + ts.length
  next : J.next = a + secsUp gen 0 (os ++ ts)
  fin : J.fin = a + m
  jL : J.L = firsts gen os.length (a + secsUp gen 0 os) ts
  live : J.dead = false
  forms : ∀ (i : Nat) t, (os ++ ts)[i]? = some t → formE gen (i : Int) t = 0
  vlen : V.length = n * 64
  am : a + m ≤ n
  view : J.d.view = laidAt V a m (formsX 1 gen 0 os ++ (formsX 0 gen os.length ts ++ List.replicate (64 * (m - secsUp gen 0 (os ++ ts))) 0))
theorem RunP.used {J : Jn} {n a m gen : Nat} {V : List UInt8} {os ts : List (List UInt8)} (h : RunP J n a m gen V os ts) : secsUp gen 0 (os ++ ts) ≤ m := by
  have := h.ok.next
  rw [h.next, h.fin] at this
  omega
theorem RunP.room {J : Jn} {n a m gen : Nat} {V : List UInt8} {os ts : List (List UInt8)} (h : RunP J n a m gen V os ts) : J.fin - J.next = m - secsUp gen 0 (os ++ ts) := by rw [h.fin, h.next]; omega
theorem RunP.len {J : Jn} {n a m gen : Nat} {V : List UInt8} {os ts : List (List UInt8)} (h : RunP J n a m gen V os ts) :
    (formsX 1 gen 0 os ++ (formsX 0 gen os.length ts ++ List.replicate (64 * (m - secsUp gen 0 (os ++ ts))) 0)).length = 64 * m := by
  have := h.used
  rw [secsUp_append, Nat.zero_add] at this
  rw [List.length_append, List.length_append, formsX_length, formsX_length, List.length_replicate, secsUp_append, Nat.zero_add]
  omega
/-- the part shows the records that stand in it, once all is flushed -/
theorem RunP.part {J : Jn} {n a m gen : Nat} {V : List UInt8} {os : List (List UInt8)} (h : RunP J n a m gen V os []) : J.d.part a m = formsX 1 gen 0 os ++ List.replicate (64 * (m - secsUp gen 0 os)) 0 := by
  rw [laid_part h.view h.vlen h.am h.len]
  simp [formsX]
theorem RunP.scanned {J : Jn} {n a m gen : Nat} {V : List UInt8} {os : List (List UInt8)} (h : RunP J n a m gen V os []) : Scanned gen (J.d.part a m) os := by
  rw [h.part]
  exact scanned_forms fun i t hi => h.forms i t (by simpa using hi)
theorem RunP.scanned_no {J : Jn} {n a m gen oth : Nat} {V : List UInt8} {os : List (List UInt8)} (h : RunP J n a m gen V os []) (hne : gen ≠ oth) : Scanned oth (J.d.part a m) [] := by
  rw [h.part]
  exact scanned_other hne fun i t hi => h.forms i t (by simpa using hi)
/-- a journal that was opened -/
theorem RunP.opened {d : Dv} {n a m gen : Nat} {os : List (List UInt8)} (hu : d.Up) (ho : d.Ok) (hn : d.n = n) (ham : a + m ≤ n) (hg : gen ≤ 1099511627776) (hs : Scanned gen (d.part a m) os) :
    ∃ d', d.wiped (a + secsUp gen 0 os) (m - secsUp gen 0 os) false = (0, d') ∧ RunP (Jn.opened d' gen a m os) n a m gen d.view os [] ∧ (d'.L = [] ∨ d' = d) := by
  have hv := view_length ho
  rw [hn] at hv
  have hpl : (d.part a m).length = 64 * m := by unfold Dv.part; rw [List.length_take, List.length_drop, hv]; omega
  have hle : secsUp gen 0 os ≤ m := by have := hs.1.le; rw [hpl] at this; omega
  obtain ⟨d', h1, h2, h3, h4, h5, h6⟩ := up_wiped (m - secsUp gen 0 os) d (a + secsUp gen 0 os) false hu ho (by omega)
  obtain ⟨u, hu'⟩ : ∃ u, secsUp gen 0 os = u := ⟨_, rfl⟩
  have hn4 := ho.n
  have hge := secsUp_ge gen 0 os
  refine ⟨d', h1, ⟨⟨h3, hg, by show os.length ≤ _; omega, by show a + secsUp gen 0 os ≤ a + m; omega, by show a + m ≤ d'.n; omega, fun p hp => (by cases hp), Nat.zero_le _⟩, h2, by show d'.n = n; omega, rfl, rfl, by show a + _ = _; rw [List.append_nil], rfl, rfl, rfl, fun i t hi => ?_, hv, ham, ?_⟩, h6⟩
  · rw [List.append_nil] at hi
    have := stood_forms_ok hs.1 i t hi
    simpa using this
  · show d'.view = _
    rw [h5]
    obtain ⟨c, hc⟩ := stood_prefix hs.1
    have hfl := formsX_length 1 gen 0 os
    have e1 : d.view.take (64 * (a + secsUp gen 0 os)) = d.view.take (64 * a) ++ formsX 1 gen 0 os := by
      rw [show 64 * (a + secsUp gen 0 os) = 64 * a + 64 * secsUp gen 0 os by omega, List.take_add]
      congr 1
      have : formsX 1 gen 0 os = (d.part a m).take (64 * secsUp gen 0 os) := by rw [← hc, ← hfl, List.take_left]
      rw [this]
      unfold Dv.part
      rw [List.take_take, Nat.min_eq_left (by omega)]
    unfold put laidAt
    rw [e1, List.length_replicate, List.append_nil, show 64 * (a + secsUp gen 0 os) + 64 * (m - secsUp gen 0 os) = 64 * (a + m) by omega]
    simp [formsX, List.append_assoc]
theorem RunP.add {J : Jn} {n a m gen : Nat} {V : List UInt8} {os ts : List (List UInt8)} (h : RunP J n a m gen V os ts) {t : List UInt8} (hf : formE gen ((os.length + ts.length : Nat) : Int) t = 0) (hr : manyOf gen (os.length + ts.length) t ≤ m - secsUp gen 0 (os ++ ts)) :
    ∃ J', J.add t = (0, J') ∧ RunP J' n a m gen V os (ts ++ [t]) ∧ J'.d.L.length = J.d.L.length + manyOf gen (os.length + ts.length) t := by
  have hm := formE_nat hf
  have husd := h.used
  have hge := secsUp_ge gen 0 (os ++ ts)
  have hlt4 := h.ok.d.n
  rw [h.dn] at hlt4
  have ham := h.am
  rw [List.length_append] at hge
  have hfl := form_length 0 gen (os.length + ts.length) t
  have hin : ∀ p ∈ J.form0 t, p.1 < J.d.n ∧ p.2.length = 64 := by
    unfold Jn.form0
    rw [h.jgen, h.jk, h.dn]
    exact chunks_in (by rw [hfl]; omega) (by rw [h.next]; omega)
  have hp := up_puts h.up hin
  have hcl : (J.form0 t).length = manyOf gen (os.length + ts.length) t := by unfold Jn.form0; rw [h.jgen, h.jk]; simp [chunks]
  have hsn : secsUp gen 0 (os ++ (ts ++ [t])) = secsUp gen 0 (os ++ ts) + manyOf gen (os.length + ts.length) t := by
    rw [← List.append_assoc, secsUp_snoc, Nat.zero_add, List.length_append]
  refine ⟨J.more t { J.d with L := J.d.L ++ J.form0 t }, ?_, ?_, by show (J.d.L ++ J.form0 t).length = _; rw [List.length_append, hcl]⟩
  · unfold Jn.add
    rw [if_neg (by rw [h.live]; simp), h.jgen, h.jk, if_neg (by omega), h.room, if_neg (by omega), hp, if_pos rfl]
  · have hok2 : ({ J.d with L := J.d.L ++ J.form0 t } : Dv).Ok := by
      have := puts_ok (J.form0 t) h.ok.d
      rwa [hp] at this
    have hLin : ∀ p ∈ (J.more t { J.d with L := J.d.L ++ J.form0 t }).L, p.1 < J.d.n ∧ p.2.length = 64 := by
      intro p hp
      simp only [Jn.more, List.mem_append, List.mem_singleton] at hp
      rcases hp with hp | rfl
      · exact h.ok.L p hp
      · have := secs_pos (restB gen (os.length + ts.length) t).length
        refine ⟨by show J.next < J.d.n; rw [h.dn, h.next]; unfold manyOf at hr; omega, ?_⟩
        rw [h.jgen, h.jk]
        exact sec_length (n := manyOf gen (os.length + ts.length) t) (by rw [form_length]; omega) this
    refine ⟨⟨hok2, h.ok.gen, ?_, ?_, h.ok.fin, hLin, ?_⟩, h.up, h.dn, h.jgen, ?_, ?_, h.fin, ?_, h.live, ?_, h.vlen, h.am, ?_⟩
    · show J.k + 1 ≤ _; rw [h.jk]; omega
    · show J.next + manyOf J.gen J.k t ≤ J.fin
      rw [h.jgen, h.jk, h.fin, h.next]; omega
    · show (J.L ++ [_]).length ≤ _
      rw [List.length_append, h.jL, firsts_length]; simp; omega
    · show J.k + 1 = _; rw [h.jk]; simp; omega
    · show J.next + manyOf J.gen J.k t = _
      rw [hsn, h.jgen, h.jk, h.next]; omega
    · show J.L ++ [_] = _
      rw [firsts_snoc, h.jL, h.jgen, h.jk, h.next, secsUp_append, Nat.zero_add, Nat.add_assoc]
    · intro i u hu
      rw [← List.append_assoc, List.getElem?_append] at hu
      split at hu
      · exact h.forms i u hu
      · rename_i hi
        have e : i = (os ++ ts).length := by
          have := (List.getElem?_eq_some_iff.1 hu).1
          simp at this hi ⊢; omega
        subst e
        simp at hu
        subst hu
        rw [List.length_append]
        exact hf
    · show ({ J.d with L := J.d.L ++ J.form0 t } : Dv).view = _
      have hvl := view_length h.ok.d
      rw [h.dn] at hvl
      rw [view_more _ _ (fun p hp => (hin p hp).2)]
      have e := puts_chunks (f := formX 0 gen (os.length + ts.length) t) (m := manyOf gen (os.length + ts.length) t) (by rw [hfl]; omega) (S := J.d.view) (o := J.next) _ (Nat.le_refl _) (by rw [hvl, h.next]; omega)
      have e2 : J.form0 t = chunks (formX 0 gen (os.length + ts.length) t) J.next (manyOf gen (os.length + ts.length) t) := by unfold Jn.form0; rw [h.jgen, h.jk]
      have hVt : (V.take (64 * a)).length = 64 * a := by rw [List.length_take, h.vlen]; omega
      rw [e2, e, ← hfl, List.take_length, h.view, hsn]
      have hal : (V.take (64 * a) ++ (formsX 1 gen 0 os ++ formsX 0 gen os.length ts)).length = 64 * J.next := by
        rw [List.length_append, List.length_append, hVt, formsX_length, formsX_length, h.next, secsUp_append, Nat.zero_add]; omega
      have hL0 : laidAt V a m (formsX 1 gen 0 os ++ (formsX 0 gen os.length ts ++ List.replicate (64 * (m - secsUp gen 0 (os ++ ts))) 0)) =
          (V.take (64 * a) ++ (formsX 1 gen 0 os ++ formsX 0 gen os.length ts)) ++ List.replicate (64 * manyOf gen (os.length + ts.length) t) 0 ++ (List.replicate (64 * (m - (secsUp gen 0 (os ++ ts) + manyOf gen (os.length + ts.length) t))) 0 ++ V.drop (64 * (a + m))) := by
        have hrep : List.replicate (64 * (m - secsUp gen 0 (os ++ ts))) (0 : UInt8) = List.replicate (64 * manyOf gen (os.length + ts.length) t) 0 ++ List.replicate (64 * (m - (secsUp gen 0 (os ++ ts) + manyOf gen (os.length + ts.length) t))) 0 := by
          rw [List.replicate_append_replicate]
          congr 1
          omega
        unfold laidAt
        rw [hrep]
        simp only [List.append_assoc]
      rw [hL0, ← hal, put_over (by rw [hfl, List.length_replicate])]
      unfold laidAt
      rw [formsX_snoc]
      simp only [List.append_assoc]
theorem RunP.full {J : Jn} {n a m gen : Nat} {V : List UInt8} {os ts : List (List UInt8)} (h : RunP J n a m gen V os ts) {t : List UInt8} (hf : formE gen ((os.length + ts.length : Nat) : Int) t = 0) (hr : ¬ manyOf gen (os.length + ts.length) t ≤ m - secsUp gen 0 (os ++ ts)) : J.add t = (6, J) := by
  unfold Jn.add
  rw [if_neg (by rw [h.live]; simp), h.jgen, h.jk, if_neg (by omega), h.room, if_pos (by omega)]
theorem RunP.flush {J : Jn} {n a m gen : Nat} {V : List UInt8} {os ts : List (List UInt8)} (h : RunP J n a m gen V os ts) :
    ∃ J', J.flush = (0, J') ∧ RunP J' n a m gen V (os ++ ts) [] ∧ J'.d.L = [] := by
  obtain ⟨f1, f2⟩ := up_flush h.up
  have hview : ∀ d : Dv, ({ d with S := d.view, L := [] } : Dv).view = d.view := fun _ => rfl
  have hup : J.d.flush.Up := by rw [f2]; exact h.up
  have hn : J.d.flush.n = n := by rw [f2]; exact h.dn
  have hok := h.ok.d.flush
  have hfin : ∀ (i : Nat) t, ((os ++ ts) ++ [])[i]? = some t → formE gen (i : Int) t = 0 := fun i t hi => h.forms i t (by simpa using hi)
  by_cases hL : J.L = []
  · have hts : ts = [] := by
      have := firsts_length gen os.length (a + secsUp gen 0 os) ts
      rw [← h.jL, hL] at this
      exact List.eq_nil_of_length_eq_zero this.symm
    subst hts
    refine ⟨{ J with d := J.d.flush }, ?_, ⟨⟨hok, h.ok.gen, h.ok.k, h.ok.next, by show J.fin ≤ J.d.flush.n; rw [hn, ← h.dn]; exact h.ok.fin, fun p hp => (by rw [show ({ J with d := J.d.flush } : Jn).L = J.L from rfl, hL] at hp; cases hp), h.ok.l⟩, hup, hn, h.jgen, by rw [List.append_nil]; exact h.jk, by rw [List.append_nil]; exact h.next, h.fin, hL, h.live, hfin, h.vlen, h.am, ?_⟩, by show J.d.flush.L = _; rw [f2]⟩
    · unfold Jn.flush
      rw [if_neg (by rw [h.live]; simp), if_neg (by rw [f1]; simp), if_pos hL]
    · show J.d.flush.view = _
      rw [f2, hview, h.view]
      simp
  · have hin : ∀ p ∈ J.L, p.1 < J.d.flush.n ∧ p.2.length = 64 := by rw [hn, ← h.dn]; exact h.ok.L
    have hp := up_puts hup hin
    have hup2 : ({ J.d.flush with L := J.d.flush.L ++ J.L } : Dv).Up := hup
    obtain ⟨g1, g2⟩ := up_flush hup2
    have hok2 := puts_ok J.L hok
    refine ⟨{ J with d := (J.d.flush.puts J.L).2.flush, L := [] }, ?_, ⟨⟨hok2.flush, h.ok.gen, h.ok.k, h.ok.next, ?_, fun p hp => (by cases hp), Nat.zero_le _⟩, ?_, ?_, h.jgen, ?_, ?_, h.fin, rfl, h.live, hfin, h.vlen, h.am, ?_⟩, ?_⟩
    · unfold Jn.flush
      rw [if_neg (by rw [h.live]; simp), if_neg (by rw [f1]; simp), if_neg hL, if_neg (by rw [hp]; simp), if_neg (by rw [hp, g1]; simp)]
    · show J.fin ≤ (J.d.flush.puts J.L).2.flush.n
      rw [hp, g2]
      show J.fin ≤ J.d.flush.n
      rw [hn, ← h.dn]
      exact h.ok.fin
    · show (J.d.flush.puts J.L).2.flush.Up
      rw [hp, g2]
      exact hup
    · show (J.d.flush.puts J.L).2.flush.n = n
      rw [hp, g2]
      exact hn
    · show J.k = _
      rw [h.jk, List.length_append]; rfl
    · show J.next = _
      rw [List.append_nil]; exact h.next
    · show (J.d.flush.puts J.L).2.flush.view = _
      rw [hp, g2, hview, view_more _ _ (fun p hp => (hin p hp).2), f2, hview, h.view, h.jL]
      have hVt : (V.take (64 * a)).length = 64 * a := by have := h.am; rw [List.length_take, h.vlen]; omega
      have hal : (V.take (64 * a) ++ formsX 1 gen 0 os).length = 64 * (a + secsUp gen 0 os) := by rw [List.length_append, hVt, formsX_length]; omega
      have := puts_firsts gen (List.replicate (64 * (m - secsUp gen 0 (os ++ ts))) 0 ++ V.drop (64 * (a + m))) ts os.length (a + secsUp gen 0 os) _ hal
      unfold laidAt
      simp only [List.append_assoc, List.append_nil] at this ⊢
      rw [this, formsX_append, Nat.zero_add]
      simp [formsX]
    · show (J.d.flush.puts J.L).2.flush.L = []
      rw [hp, g2]
end Go.Proofs.YtdlgihgdpdiglaaGreat
end

section
namespace Go.Proofs.YtdlgihgdpdiglaaGreat
open Go.ChangeShapes Go.WideShapes Go.ChangeAt Go.RowKit
set_option linter.unusedVariables false
attribute [local go_sem ↓] ldArr_eq stSt_eq ldSt_eq

/-- where the starts lie that wait -/
theorem start_at {w : World} {B : Nat} {A : Option Addr} {m c k : Nat} {L : List (Nat × List UInt8)} {p : Nat × List UInt8} (hown : w.ownsRow B 256 65 (.slice A m c) m (wcells L)) (hL : ∀ p ∈ L, p.2.length = 64) (hm : L.length = m) (hk : L[k]? = some p) :
    ∃ b, A = some ⟨b, 0, none⟩ ∧ w.rangeAt b (65 * k) (wcell p) := by
  have hkl : k < L.length := (List.getElem?_eq_some_iff.1 hk).1
  rcases hown.2 with ⟨_, h0⟩ | ⟨b, cap, cur, hv, _, hh, hnc, _, hcs, ht⟩
  · omega
  · injection hv with hA
    subst hA
    refine ⟨b, rfl, fun j v hv => ?_⟩
    rw [cell_of_row w b (65 * k + j) cur _ (0, 0) hh]
    have h2 := wcells_at hL hk j v hv
    rw [← ht, List.getElem?_take] at h2
    split at h2
    · simpa using h2
    · cases h2
/-- nothing waits any more -/
theorem IsJ.clear {w : World} {B g s : Nat} {r : Option Nat} {j : Nat} {q : Option Nat} {J : Jn} (h : IsJ w B g s r j q J) : MovedJ B g s r j q { J with L := [] } w (w.setCell ⟨j, 5, none⟩ (.slice none 0 0)) := by
  obtain ⟨h1, hd, hB, h2, h3, h4, h5, h6, h7, h8, A, c, hh, hown, hq⟩ := h
  have ht : Turned (fun k => k = j) w (w.setCell ⟨j, 5, none⟩ (.slice none 0 0)) := (Turned.refl (fun k => k = j) w).setCell (b := ⟨j, 5, none⟩) (fun _ => rfl) _
  refine ⟨r, none, ⟨⟨h1.d, h1.gen, h1.k, h1.next, h1.fin, fun p hp => (by cases hp), Nat.zero_le _⟩, ?_, hB, h2, h3, h4, by simp, by simp, by simp, fun k e => (by cases e), none, 0, ?_, World.ownsRow_nil _ _ _ _, rfl⟩, fun k e => .inl e, fun k e => (by cases e), ht.mono fun k _ e => .inr (.inr (.inl e))⟩
  · obtain ⟨d1, d2, d3, d4, d5, d6, d7, A', c', d8, d9, d10⟩ := hd
    exact ⟨d1, d2, d3, d4, d5, d6, ht.heap d7 (fun e => h3 e.symm), A', c', ht.heap d8 (fun e => h2 e.symm), own65_turned ht d9 (fun k hk e => h4 (by rw [← d10, hk, e])), d10⟩
  · rw [row_set hh]; rfl
theorem flushE_ways (d : Dv) : d.flushE = 0 ∨ d.flushE = 16 := by
  unfold Dv.flushE
  split
  · exact .inr rfl
  · exact .inl rfl
theorem flush_n (d : Dv) : d.flush.n = d.n := by
  unfold Dv.flush
  split
  · exact Dv.burnt_n d
  · exact Dv.burnt_n d
theorem flush_L (d : Dv) : d.flush.L.length ≤ d.L.length := by
  unfold Dv.flush
  split
  · rw [Dv.burnt_L]; exact Nat.le_refl _
  · exact Nat.zero_le _
/-- where Flush's loop stands: so many starts were written -/
def FlAt (B g s : Nat) (r : Option Nat) (d : Dv) (L : List (Nat × List UInt8)) (w1 : World) (k : Nat) (d' : Dv) (wr : World) : Prop :=
  d.puts L = d'.puts (L.drop k) ∧ MovedD B g s r d' w1 wr ∧ d'.L.length ≤ d.L.length + k ∧ d'.n = d.n

set_option maxRecDepth 100000 in
set_option maxHeartbeats 4000000 in
theorem JFlush_any (B g s : Nat) (r : Option Nat) (j : Nat) (q : Option Nat) (J : Jn) (w : World) (h : IsJ w B g s r j q J) (hdl : J.d.L.length ≤ 800000) (hBw : B ≤ w.heap.size) :
    Calls Tryz.prog 196 #[.pointer (some ⟨j, 0, none⟩)] w fun e w' => e = .returned (.int .i64 (J.flush.1 : Int)) ∧ MovedJ B g s r j q J.flush.2 w w' := by
  have H := Lib.hid h
  obtain ⟨h1, hd, hB, h2, h3, h4, h5, h6, h7, h8, A', c', hh, hown, hq⟩ := h
  have Hh := Lib.hid hh
  have c6 : w.cell? ⟨j, 6, none⟩ = some (.bool J.dead) := row_cell hh 6
  have c0 : w.cell? ⟨j, 0, none⟩ = some (.pointer (some ⟨g, 0, none⟩)) := row_cell hh 0
  cases hdead : J.dead with
  | true =>
    have ha : J.flush = (16, J) := by unfold Jn.flush; rw [if_pos hdead]
    rw [hdead] at c6
    rw [ha]
    clear hh hown hq h8 hd h1 ha hdead
    go_enter Tryz.func196, Tryz.ntmps196
    go_wp2
    go_ret
    exact ⟨rfl, MovedJ.refl H.out⟩
  | false =>
    rw [hdead] at c6
    have bd := hd.1.n
    have Hdead := Lib.hid hdead
    have H1 := Lib.hid h1
    clear hh hown hq h8 hd hdead h1
    have Hfl := Lib.hid (Flush_any B g s r J.d w H.out.dev (by omega))
    rcases flushE_ways J.d with he | he
    · have He := Lib.hid he
      have Hfl0 := Lib.hid (show Calls Tryz.prog 131 #[.pointer (some ⟨g, 0, none⟩)] w (fun e w' => e = .returned (.int .i64 0) ∧ MovedJ B g s r j q { J with d := J.d.flush } w w') from by
        refine Hfl.out.mono ?_
        rintro e w1 ⟨rfl, hm⟩
        exact ⟨by rw [He.out]; rfl, H.out.moved hm (flush_n _)⟩)
      clear he
      by_cases hL : J.L = []
      · have ha : J.flush = (0, { J with d := J.d.flush }) := by unfold Jn.flush; rw [if_neg (by rw [Hdead.out]; simp), if_neg (by rw [He.out]; simp), if_pos hL]
        have Ha := Lib.hid ha; have HL := Lib.hid hL
        clear ha hL
        go_enter Tryz.func196, Tryz.ntmps196
        go_wp2_with (go_at_call 131; refine Hfl0.out.mono ?_; rintro e w1 ⟨rfl, r1, q1, hj1, hr1, hq1, ht1⟩; have Hj1 := Lib.hid hj1; have Hr1 := Lib.hid hr1; have Hq1 := Lib.hid hq1; have Ht1 := Lib.hid ht1; obtain ⟨_, _, _, _, _, _, _, _, _, _, A1, c1', hh1, _⟩ := hj1; have m5 : w1.cell? ⟨j, 5, none⟩ = some (.slice A1 J.L.length c1') := row_cell hh1 5; rw [HL.out] at m5; clear hh1 hr1 hq1 ht1)
        go_ret
        rw [Ha.out]
        exact ⟨rfl, r1, q1, Hj1.out, Hr1.out, Hq1.out, Ht1.out⟩
      · have hLl : 0 < J.L.length := List.length_pos_iff.2 hL
        obtain ⟨m, hm⟩ : ∃ m, J.L.length = m := ⟨_, rfl⟩
        rw [hm] at hLl
        have hml := H1.out.l
        rw [hm] at hml
        have Hm := Lib.hid hm
        have HLp := Lib.hid H1.out.L
        have HL := Lib.hid hL
        have hne : ((m : Int) == 0) = false := by simp; omega
        obtain ⟨d1, hd1⟩ : ∃ d1, J.d.flush = d1 := ⟨_, rfl⟩
        have hd1L : d1.L.length ≤ 800000 := by rw [← hd1]; exact Nat.le_trans (flush_L _) hdl
        have hd1n : d1.n = J.d.n := by rw [← hd1]; exact flush_n _
        have Hd1 := Lib.hid hd1
        rw [hd1] at Hfl0
        clear hL hm hd1
        go_enter Tryz.func196, Tryz.ntmps196
        go_wp2_with (go_at_call 131; refine Hfl0.out.mono ?_; rintro e w1 ⟨rfl, r1, q1, hj1, hr1, hq1, ht1⟩; have Hj1 := Lib.hid hj1; have Hr1 := Lib.hid hr1; have Hq1 := Lib.hid hq1; have Ht1 := Lib.hid ht1; obtain ⟨_, _, _, _, _, _, _, _, _, _, A1, c1', hh1, hown1, hq1'⟩ := hj1; have m5 : w1.cell? ⟨j, 5, none⟩ = some (.slice A1 m c1') := (by have := row_cell hh1 5; rw [← Hm.out]; exact this); have Hh1 := Lib.hid hh1; have Hown1 := Lib.hid hown1; have Hq1' := Lib.hid hq1'; clear hh1 hr1 hq1 ht1 hown1 hq1')
        clear m5
        have hj1 := Hj1.out
        obtain ⟨_, _, _, k2, k3, k4, k5, k6, k7, k8, _⟩ := hj1
        have Hk := Lib.hid (And.intro k2 (And.intro k3 (And.intro k4 (And.intro k5 (And.intro k6 (And.intro k7 k8))))))
        clear k2 k3 k4 k5 k6 k7 k8
        go_loopw [33] (fun iv wr => ∃ (k : Nat) (d' : Dv), k ≤ m ∧ iv = .int .i64 (k : Int) ∧ FlAt B g s r1 d1 J.L w1 k d' wr) (fun iv _ => m - (intOf iv).toNat)
        case atStart => exact ⟨0, d1, by omega, rfl, by simp, MovedD.refl Hj1.out.dev, by omega, rfl⟩
        case round =>
          obtain ⟨k, d', hkm, rfl, hp, hmv, hdl', hdn⟩ := hrel
          have Hp := Lib.hid hp
          obtain ⟨r2, hd2, hr2, ht2⟩ := hmv
          have Hd2 := Lib.hid hd2; have Hr2 := Lib.hid hr2; have Ht2 := Lib.hid ht2
          have hjn : ¬ (j = g ∨ j = s ∨ r1 = some j) := by
            have := Hk.out
            rintro (e | e | e)
            · exact this.1 e
            · exact this.2.1 e
            · exact this.2.2.1 e
          have hh2 := ht2.heap Hh1.out hjn
          have k0 : wr.cell? ⟨j, 0, none⟩ = some (.pointer (some ⟨g, 0, none⟩)) := row_cell hh2 0
          have Hh2 := Lib.hid hh2
          have Hmj := Lib.hid (show ∀ w6 d2, MovedD B g s r1 d2 w1 w6 → d2.n = J.d.n → MovedJ B g s r j q { J with d := d2 } w w6 from fun w6 d2 hmv hn => MovedJ.step Hr1.out Hq1.out Ht1.out (Hj1.out.moved hmv (by rw [hn]; exact hd1n.symm)))
          clear hp hh2 hr2 ht2 hd2 hjn
          by_cases hkl : k < m
          · obtain ⟨p, hpk⟩ : ∃ p, J.L[k]? = some p := ⟨_, List.getElem?_eq_getElem (by rw [Hm.out]; exact hkl)⟩
            have hpL := HLp.out p (List.mem_of_getElem? hpk)
            have hown1 : w1.ownsRow B 256 65 (.slice A1 m c1') m (wcells J.L) := by have := Hown1.out; rw [show ({ J with d := d1 } : Jn).L = J.L from rfl, Hm.out] at this; exact this
            obtain ⟨b, hA, hra⟩ := start_at hown1 (fun p hp => (HLp.out p hp).2) Hm.out hpk
            subst hA
            have hqb : q1 = some b := by rw [← Hq1'.out]; rfl
            have hbn : ¬ (b = g ∨ b = s ∨ r1 = some b) := by
              have := Hk.out
              rintro (e | e | e)
              · exact this.2.2.2.2.1 (by rw [hqb, e])
              · exact this.2.2.2.2.2.1 (by rw [hqb, e])
              · exact this.2.2.2.2.2.2 b hqb e
            have hra1 : wr.rangeAt b (65 * k) (wcell p) := fun i v hv => Ht2.out.cell (hra i v hv) hbn
            have hwl : (wcell p).length = 65 := by simp [wcell, bytes_length, hpL.2]
            have hld := ldSt_run hra1 hwl
            rw [show 65 * k = k * 65 by omega] at hld
            have hst := stSt_run wr zw (wcell p).toArray zw_size (by simp [hwl]) (all_oneCell_toArray (wcell_one p))
            obtain ⟨cw, hcw⟩ : ∃ cw, (wcell p).toArray = cw := ⟨_, rfl⟩
            rw [hcw] at hld hst
            have hZ := zst_run
            have hd0 : (wr.alloc (.cells cw 256)).cell? ⟨j, 0, none⟩ = some (.pointer (some ⟨g, 0, none⟩)) := (World.cell?_alloc_lt wr _ _ (block_lt_of_cell k0)).trans k0
            have hnew : (wr.alloc (.cells cw 256)).heap[wr.heap.size]? = some (.cells cw 256 (0, 0)) := heap_alloc_new wr _
            have hp0 : (wr.alloc (.cells cw 256)).cell? ⟨wr.heap.size, 0, none⟩ = some (.int .i64 (p.1 : Int)) := by rw [row_cell hnew 0, ← hcw]; rfl
            have hsb : Below wr.heap.size wr (wr.alloc (.cells cw 256)) := (Below.refl _ _).alloc (Nat.le_refl _) _
            obtain ⟨W2, hW2⟩ : ∃ W2, wr.alloc (.cells cw 256) = W2 := ⟨_, rfl⟩
            rw [hW2] at hst hd0 hp0 hnew hsb
            have Hnew := Lib.hid hnew; have Hsb := Lib.hid hsb; have Hcw := Lib.hid hcw; have HpL := Lib.hid hpL; have Hpk := Lib.hid hpk
            have b0 : (0 : Int) ≤ (k : Int) := by omega
            have b1 : (k : Int) < (m : Int) := by omega
            have hU := arr_und
            clear hra hra1 hwl hW2 hnew hsb hcw hpL hpk hown1 hbn hqb
            go_wp2
            go_still_tail 8, (by kernel_rfl)
            change wpList _ _ _ _ _ W2.drew
            have hsee : Seen W2.drew (some ⟨wr.heap.size, 1, none⟩) (bytesV p.2) := .inr ⟨wr.heap.size, 1, rfl, fun i u hu => by
              show W2.cell? ⟨wr.heap.size, 1 + i, none⟩ = some u
              rw [row_cell Hnew.out, ← Hcw.out, Nat.add_comm]
              simpa [wcell] using hu⟩
            have hd3 : IsD W2.drew B g s r2 d' := Hd2.out.below Hsb.out.drew
            have hdrop : J.L.drop k = p :: J.L.drop (k + 1) := by
              rw [List.drop_eq_getElem_cons (by rw [Hm.out]; exact hkl)]
              congr 1
              have := List.getElem?_eq_getElem (l := J.L) (i := k) (by rw [Hm.out]; exact hkl)
              rw [Hpk.out] at this
              injection this with this
              exact this.symm
            have hpn : p.1 < d'.n := by rw [hdn, hd1n]; exact HpL.out.1
            have hlt2 := Hd2.out.lt
            have hwr := Write_any B g s r2 d' (p.1 : Int) (some ⟨wr.heap.size, 1, none⟩) 64 64 p.2 W2.drew hd3 (by omega) (by omega) (by omega) HpL.out.2 (by omega) (by have := hd3.lt; show B ≤ W2.drew.heap.size; omega) hsee (fun gb ob e => by
              injection e with e; injection e with e1 _
              subst e1
              exact ⟨by omega, by omega, fun e => by have := (hlt2.2.2.2.2 _ e).2; omega⟩)
            have Hwr := Lib.hid hwr
            have Hmd := Lib.hid (show ∀ w6 d2, MovedD B g s r2 d2 W2.drew w6 → MovedD B g s r1 d2 w1 w6 from fun w6 d2 hmv => by
              refine MovedD.step (d := d2) Hr2.out Ht2.out ?_
              exact MovedD.step (fun k e => .inl e) (Turned.of_below Hsb.out.drew) hmv)
            have Hdrop := Lib.hid hdrop
            have hw16 := writeE_ways d' hpn HpL.out.2
            have Hwn := Lib.hid (write_n d' (p.1 : Int) p.2)
            have HwL := Lib.hid (write_L d' (p.1 : Int) p.2)
            clear hsee hd3 hdrop hpn hwr hlt2
            rcases hw16 with hw0 | hw0
            · have Hw0 := Lib.hid hw0
              clear hw0
              go_wp2_with (go_at_call 130; refine Hwr.out.mono ?_; rw [Hw0.out]; rintro e w6 ⟨rfl, hmv⟩; have Hm6 := Lib.hid (Hmd.out w6 _ hmv); clear hmv)
              go_roundw
              case rel => exact ⟨k + 1, d'.write p.1 p.2, by omega, by go_num, by rw [Hp.out, Hdrop.out, Dv.puts, if_pos Hw0.out], Hm6.out, by have := HwL.out; omega, by rw [Hwn.out]; exact hdn⟩
              case measure => simp [intOf]; omega
            · have Hw0 := Lib.hid hw0
              have hpe : d1.puts J.L = (16, d'.write p.1 p.2) := by rw [Hp.out, Hdrop.out, Dv.puts, if_neg (by rw [Hw0.out]; simp), Hw0.out]
              have ha : J.flush = (16, J.died (d'.write p.1 p.2)) := by
                unfold Jn.flush
                rw [if_neg (by rw [Hdead.out]; simp), if_neg (by rw [He.out]; simp), if_neg HL.out, Hd1.out, hpe, if_pos (by simp)]
              clear hpe
              have Ha := Lib.hid ha
              clear hw0 ha
              go_wp2_with (first
                | (go_at_call 130; refine Hwr.out.mono ?_; rw [Hw0.out]; rintro e w6 ⟨rfl, hmv⟩; have hm6 := Hmj.out w6 _ (Hmd.out w6 _ hmv) (by rw [Hwn.out, hdn, hd1n]); obtain ⟨r6, q6, hj6, hr6, hq6, ht6⟩ := hm6; have Hj6 := Lib.hid hj6; have Hr6 := Lib.hid hr6; have Hq6 := Lib.hid hq6; have Ht6 := Lib.hid ht6; clear hmv hj6 hr6 hq6 ht6)
                | (go_at_call 214; refine (die_any B g s r6 j q6 { J with d := d'.write p.1 p.2 } 16 w6 Hj6.out (by omega)).mono ?_; rintro e w7 ⟨rfl, hmv⟩; have Hm7 := Lib.hid hmv; clear hmv))
              go_ret
              rw [Ha.out]
              exact ⟨rfl, MovedJ.step Hr6.out Hq6.out Ht6.out Hm7.out⟩
          · obtain rfl : k = m := by omega
            have hpe : d1.puts J.L = (0, d') := by rw [Hp.out, List.drop_eq_nil_of_le (by rw [Hm.out]; exact Nat.le_refl _)]; rfl
            have Hpe := Lib.hid hpe
            have Hfl2 := Lib.hid (Flush_any B g s r2 d' wr Hd2.out (by omega))
            have Hmd := Lib.hid (show ∀ w6, MovedD B g s r2 d'.flush wr w6 → MovedJ B g s r j q { J with d := d'.flush } w w6 from fun w6 hmv => Hmj.out w6 _ (MovedD.step (d := d'.flush) Hr2.out Ht2.out hmv) (by rw [flush_n, hdn, hd1n]))
            clear hpe
            rcases flushE_ways d' with he2 | he2
            · have He2 := Lib.hid he2
              have ha : J.flush = (0, { J with d := d'.flush, L := [] }) := by
                unfold Jn.flush
                rw [if_neg (by rw [Hdead.out]; simp), if_neg (by rw [He.out]; simp), if_neg HL.out, Hd1.out, Hpe.out, if_neg (by simp), if_neg (by rw [He2.out]; simp)]
              have Ha := Lib.hid ha
              clear he2 ha
              go_wp2_with (go_at_call 131; refine Hfl2.out.mono ?_; rw [He2.out]; rintro e w6 ⟨rfl, hmv⟩; have hm6 := Hmd.out w6 hmv; obtain ⟨r6, q6, hj6, hr6, hq6, ht6⟩ := hm6; have Hj6 := Lib.hid hj6; have Hr6 := Lib.hid hr6; have Hq6 := Lib.hid hq6; have Ht6 := Lib.hid ht6; obtain ⟨_, _, _, _, _, _, _, _, _, _, A6, c6', hh6, _⟩ := hj6; have m5 := row_cell hh6 5; have f5 := row_frozen hh6 5; simp at m5; clear hmv hh6 hr6 hq6 ht6)
              go_ret
              rw [Ha.out]
              exact ⟨rfl, MovedJ.step Hr6.out Hq6.out Ht6.out Hj6.out.clear⟩
            · have He2 := Lib.hid he2
              have ha : J.flush = (16, J.died d'.flush) := by
                unfold Jn.flush
                rw [if_neg (by rw [Hdead.out]; simp), if_neg (by rw [He.out]; simp), if_neg HL.out, Hd1.out, Hpe.out, if_neg (by simp), if_pos (by rw [He2.out]; simp), He2.out]
              have Ha := Lib.hid ha
              clear he2 ha
              go_wp2_with (first
                | (go_at_call 131; refine Hfl2.out.mono ?_; rw [He2.out]; rintro e w6 ⟨rfl, hmv⟩; have hm6 := Hmd.out w6 hmv; obtain ⟨r6, q6, hj6, hr6, hq6, ht6⟩ := hm6; have Hj6 := Lib.hid hj6; have Hr6 := Lib.hid hr6; have Hq6 := Lib.hid hq6; have Ht6 := Lib.hid ht6; clear hmv hj6 hr6 hq6 ht6)
                | (go_at_call 214; refine (die_any B g s r6 j q6 { J with d := d'.flush } 16 w6 Hj6.out (by omega)).mono ?_; rintro e w7 ⟨rfl, hmv⟩; have Hm7 := Lib.hid hmv; clear hmv))
              go_ret
              rw [Ha.out]
              exact ⟨rfl, MovedJ.step Hr6.out Hq6.out Ht6.out Hm7.out⟩
    · have He := Lib.hid he
      have ha : J.flush = (16, J.died J.d.flush) := by unfold Jn.flush; rw [if_neg (by rw [Hdead.out]; simp), if_pos (by rw [He.out]; simp), He.out]
      have Ha := Lib.hid ha
      have Hfl0 := Lib.hid (show Calls Tryz.prog 131 #[.pointer (some ⟨g, 0, none⟩)] w (fun e w' => e = .returned (.int .i64 16) ∧ MovedJ B g s r j q { J with d := J.d.flush } w w') from by
        refine Hfl.out.mono ?_
        rintro e w1 ⟨rfl, hm⟩
        exact ⟨by rw [He.out]; rfl, H.out.moved hm (flush_n _)⟩)
      clear he ha
      go_enter Tryz.func196, Tryz.ntmps196
      go_wp2_with (first
        | (go_at_call 131; refine Hfl0.out.mono ?_; rintro e w1 ⟨rfl, r1, q1, hj1, hr1, hq1, ht1⟩; have Hj1 := Lib.hid hj1; have Hr1 := Lib.hid hr1; have Hq1 := Lib.hid hq1; have Ht1 := Lib.hid ht1; clear hj1 hr1 hq1 ht1)
        | (go_at_call 214; refine (die_any B g s r1 j q1 { J with d := J.d.flush } 16 w1 Hj1.out (by omega)).mono ?_; rintro e w2 ⟨rfl, hmv⟩; have Hm2 := Lib.hid hmv; clear hmv))
      go_ret
      rw [Ha.out]
      exact ⟨rfl, MovedJ.step Hr1.out Hq1.out Ht1.out Hm2.out⟩
end Go.Proofs.YtdlgihgdpdiglaaGreat
end
