/-
  Joined: VauLay, VauSt, VauV, VfV. Conditions: each theorem's own.
-/
import Derived.Test.YtdlgihgdpdiglaaGreatJVauA
import Derived.Test.YtdlgihgdpdiglaaGreatJJouB
import Derived.Test.YtdlgihgdpdiglaaGreatJouAdd
import Derived.IntWalk

section
namespace Go.Proofs.YtdlgihgdpdiglaaGreat
open Go.ChangeShapes Go.WideShapes Go.ChangeAt Go.RowKit Go.Maps
set_option linter.unusedVariables false

theorem quarter_any (B g s : Nat) (r : Option Nat) (d : Dv) (w : World) (h : IsD w B g s r d) :
    Calls Tryz.prog 28 #[.pointer (some ⟨g, 0, none⟩)] w fun e w' => e = .returned (.int .i64 ((d.n / 4 : Nat) : Int)) ∧ w = w' := by
  have H := Lib.hid h
  have hn := h.1.n
  have Hq := Lib.hid (show (d.n : Int) / 4 = ((d.n / 4 : Nat) : Int) by omega)
  clear h
  go_enter Tryz.func28, Tryz.ntmps28
  go_wp2_with (go_at_call 27; refine (Len_any B g s r d w H.out).mono ?_; rintro e w1 ⟨rfl, rfl⟩)
  go_ret
  exact ⟨by rw [← Hq.out]; rfl, rfl⟩
theorem otherPlace_any (B g s : Nat) (r : Option Nat) (d : Dv) (p : Nat) (w : World) (h : IsD w B g s r d) (hp : p ≤ d.n / 4) :
    Calls Tryz.prog 30 #[.pointer (some ⟨g, 0, none⟩), .int .i64 (p : Int)] w fun e w' => e = .returned (.int .i64 ((d.n / 4 - p : Nat) : Int)) ∧ w = w' := by
  have H := Lib.hid h
  have hn := h.1.n
  obtain ⟨q, hq⟩ : ∃ q, d.n / 4 = q := ⟨_, rfl⟩
  rw [hq] at hp
  have hqn : q ≤ 1024 := by omega
  have Hq := Lib.hid hq
  clear h hq
  have Hsub := Lib.hid (show (q : Int) - (p : Int) = ((q - p : Nat) : Int) by omega)
  go_enter Tryz.func30, Tryz.ntmps30
  go_wp2_with (go_at_call 28; refine (quarter_any B g s r d w H.out).mono ?_; rw [Hq.out]; rintro e w1 ⟨rfl, rfl⟩)
  go_ret
  exact ⟨by rw [Hq.out, ← Hsub.out]; rfl, rfl⟩
theorem changesFrom_any (B g s : Nat) (r : Option Nat) (d : Dv) (w : World) (h : IsD w B g s r d) :
    Calls Tryz.prog 64 #[.pointer (some ⟨g, 0, none⟩)] w fun e w' => e = .returned (.int .i64 ((2 * (d.n / 4) : Nat) : Int)) ∧ w = w' := by
  have H := Lib.hid h
  have hn := h.1.n
  obtain ⟨q, hq⟩ : ∃ q, d.n / 4 = q := ⟨_, rfl⟩
  have hqn : q ≤ 1024 := by omega
  have Hq := Lib.hid hq
  clear h hq
  have Hmul := Lib.hid (show 2 * (q : Int) = ((2 * q : Nat) : Int) by omega)
  go_enter Tryz.func64, Tryz.ntmps64
  go_wp2_with (go_at_call 28; refine (quarter_any B g s r d w H.out).mono ?_; rw [Hq.out]; rintro e w1 ⟨rfl, rfl⟩)
  go_ret
  exact ⟨by rw [Hq.out, ← Hmul.out]; rfl, rfl⟩

set_option maxRecDepth 100000 in
set_option maxHeartbeats 4000000 in
theorem vwipe_any (B g s : Nat) (r : Option Nat) (d : Dv) (a b : Nat) (w : World) (h : IsD w B g s r d) (hL : d.L.length ≤ 800000) (hd : d.down = false) (hab : a ≤ b) (hb : b ≤ d.n) :
    Calls Tryz.prog 67 #[.pointer (some ⟨g, 0, none⟩), .int .i64 (a : Int), .int .i64 (b : Int)] w fun e w' => e = .returned (.int .i64 ((d.wiped a (b - a) false).1 : Int)) ∧ MovedD B g s r (d.wiped a (b - a) false).2 w w' := by
  have H := Lib.hid h; clear h
  have hn := H.out.1.n
  have Hd := Lib.hid hd
  clear hd
  have hlt := H.out.lt
  have Hlt := Lib.hid hlt; clear hlt
  obtain ⟨i0, hi, hz0, hz1, hz2⟩ := info_parts u8_info
  go_enter Tryz.func67, Tryz.ntmps67
  go_wp2_with (at_make; go_loud (refine wpList_make_full _ rfl (.const (.int .i64 64)) (.const (.int .i64 64)) _ rfl w.heap.size 5 i0 (.int .u8 0) 1 Tryz.underlying39 hi hz0 hz1 .i64 .i64 _ _ 64 rfl rfl (by omega) (by omega) (by rw [hz2]; omega) (by unfold maxLen; omega) (Nat.le_refl _) ?_; intro w1 hown hgr; rw [made_u8] at hown; have Hs1 := Lib.hid (show Seen w1 (some ⟨w.heap.size, 0, none⟩) (bytesV zeros64) from Seen.of_own hown); have Hown1 := Lib.hid hown; have Hb1 := Lib.hid ((Below.refl w.heap.size w).grown hgr (Nat.le_refl _) (fun k e => by cases e)); clear hown hgr))
  have Hd1 := Lib.hid (H.out.below Hb1.out)
  have hz1lt : w.heap.size < w1.heap.size := (Hown1.out.lt w.heap.size rfl).2
  clear Hown1
  go_loopw [8, 9] (fun bv iv wr => ∃ (k : Nat) (d' : Dv) (wrb : Bool), a ≤ k ∧ k ≤ b ∧ bv = .bool wrb ∧ iv = .int .i64 (k : Int) ∧ d.wiped a (b - a) false = d'.wiped k (b - k) wrb ∧ MovedD B g s r d' w1 wr ∧ d'.down = false ∧ d'.n = d.n ∧ d'.L.length ≤ d.L.length + (k - a)) (fun _ iv _ => b - (intOf iv).toNat)
  case atStart => exact ⟨a, d, false, Nat.le_refl _, hab, rfl, rfl, rfl, MovedD.refl Hd1.out, Hd.out, rfl, by omega⟩
  case round =>
    obtain ⟨k, d', wrb, hak, hkb, rfl, rfl, hp, hmv, hdn', hn', hL'⟩ := hrel
    obtain ⟨r1, hd1, hr1, ht1⟩ := hmv
    have Hp := Lib.hid hp; have Hdr := Lib.hid hd1; have Hr1 := Lib.hid hr1; have Ht1 := Lib.hid ht1; have Hdn := Lib.hid hdn'
    have Hfin := Lib.hid (show ∀ w6 d2, MovedD B g s r1 d2 wr w6 → MovedD B g s r d2 w w6 from fun w6 d2 hm => by
      refine MovedD.step (d := d2) (fun k e => .inl e) (Turned.of_below Hb1.out) ?_
      exact MovedD.step (d := d2) Hr1.out Ht1.out hm)
    have Hloop := Lib.hid (show ∀ w6 d2, MovedD B g s r1 d2 wr w6 → MovedD B g s r d2 w1 w6 from fun w6 d2 hm => MovedD.step (d := d2) Hr1.out Ht1.out hm)
    have Hs2 := Lib.hid (show Seen wr (some ⟨w.heap.size, 0, none⟩) (bytesV zeros64) from Ht1.out.seen Hs1.out (fun g' o e => by
      injection e with e; injection e with e1 _
      subst e1
      have := Hlt.out
      rintro (e | e | e)
      · omega
      · omega
      · have := (Hlt.out.2.2.2.2 _ e).2; omega))
    clear hp hd1 hr1 ht1 hdn'
    by_cases hk : k < b
    · have hrd := Read_any B g s r1 d' k wr Hdr.out (by omega) Hdn.out (by omega)
      have hnl : (newest d'.L d'.S k).length = 64 := newest_length Hdr.out.1.S Hdr.out.1.L (by omega)
      have hstep : b - k = (b - (k + 1)) + 1 := by omega
      have Hstep := Lib.hid hstep
      obtain ⟨cn, hcn⟩ : ∃ cn, newest d'.L d'.S k = cn := ⟨_, rfl⟩
      rw [hcn] at hrd hnl
      have Hcn := Lib.hid hcn
      have Hrd := Lib.hid hrd; have Hnl := Lib.hid hnl
      have Hzl := Lib.hid (show zeros64.length = 64 from List.length_replicate)
      clear hrd hnl hstep hcn
      go_wp2_with (first
        | (go_at_call 59; refine Hrd.out.mono ?_; rintro e w3 ⟨pb, rfl, hpb, hblk, hb3⟩; have Hblk := Lib.hid (Blk.seen hblk); have Hb3 := Lib.hid hb3; have Hs3 := Lib.hid (Hs2.out.below hb3); clear hblk hb3))
      refine (BytesEqual_any (some ⟨pb, 0, none⟩) (some ⟨w.heap.size, 0, none⟩) 64 64 64 64 cn zeros64 w3 Hnl.out Hzl.out Hblk.out Hs3.out).mono ?_
      rintro e w4 ⟨rfl, rfl⟩
      by_cases hz : cn = zeros64
      · rw [decide_eq_true hz]
        have hw : d'.wiped k (b - k) wrb = d'.wiped (k + 1) (b - (k + 1)) wrb := by rw [Hstep.out, Dv.wiped, if_pos (by rw [Hcn.out]; exact hz)]
        have Hw := Lib.hid hw
        clear hz hw
        go_wp2
        go_roundw
        case rel => exact ⟨k + 1, d', wrb, by omega, by omega, rfl, by go_num, Hp.out.trans Hw.out, Hloop.out w3 d' (MovedD.step (d := d') (fun k e => .inl e) (Turned.of_below Hb3.out) (MovedD.refl (Hdr.out.below Hb3.out))), Hdn.out, hn', by omega⟩
        case measure => simp [intOf]; omega
      · rw [decide_eq_false hz]
        have hw16 := writeE_ways d' (i := k) (bs := zeros64) (by omega) Hzl.out
        have hwr := Write_any B g s r1 d' (k : Int) (some ⟨w.heap.size, 0, none⟩) 64 64 zeros64 w3 (Hdr.out.below Hb3.out) (by omega) (by omega) (by omega) Hzl.out (by omega) (by have := Hb3.out.size; have := Hdr.out.lt; omega) Hs3.out (fun gb ob e => by
          injection e with e; injection e with e1 _
          subst e1
          have := Hlt.out
          refine ⟨by omega, by omega, fun e => ?_⟩
          rcases Hr1.out _ e with e | e
          · have := (Hlt.out.2.2.2.2 _ e).2; omega
          · omega)
        have Hwr := Lib.hid hwr
        have Hwn := Lib.hid (write_n d' (k : Int) zeros64)
        have HwL := Lib.hid (write_L d' (k : Int) zeros64)
        have Hmm := Lib.hid (show ∀ w6 d2, MovedD B g s r1 d2 w3 w6 → MovedD B g s r1 d2 wr w6 from fun w6 d2 hm => MovedD.step (d := d2) (fun k e => .inl e) (Turned.of_below Hb3.out) hm)
        have Hz := Lib.hid (show ¬ newest d'.L d'.S k = zeros64 by rw [Hcn.out]; exact hz)
        clear hwr hz
        rcases hw16 with hw0 | hw0
        · have hw : d'.wiped k (b - k) wrb = (d'.write k zeros64).wiped (k + 1) (b - (k + 1)) true := by rw [Hstep.out, Dv.wiped, if_neg Hz.out, if_pos hw0]
          have Hw := Lib.hid hw; have Hw0 := Lib.hid hw0
          clear hw hw0
          go_wp2_with (go_at_call 130; refine Hwr.out.mono ?_; rw [Hw0.out]; rintro e w6 ⟨rfl, hmv⟩; have Hm6 := Lib.hid (Hloop.out w6 _ (Hmm.out w6 _ hmv)); clear hmv)
          go_roundw
          case rel => exact ⟨k + 1, d'.write k zeros64, true, by omega, by omega, rfl, by go_num, Hp.out.trans Hw.out, Hm6.out, writeE_zero Hw0.out, by rw [Hwn.out]; exact hn', by have := HwL.out; omega⟩
          case measure => simp [intOf]; omega
        · have hw : d'.wiped k (b - k) wrb = (16, d'.write k zeros64) := by rw [Hstep.out, Dv.wiped, if_neg Hz.out, if_neg (by rw [hw0]; simp), hw0]
          have Hw := Lib.hid (Hp.out.trans hw); have Hw0 := Lib.hid hw0
          clear hw hw0
          go_wp2_with (go_at_call 130; refine Hwr.out.mono ?_; rw [Hw0.out]; rintro e w6 ⟨rfl, hmv⟩; have Hm6 := Lib.hid (Hfin.out w6 _ (Hmm.out w6 _ hmv)); clear hmv)
          go_ret
          rw [Hw.out]
          exact ⟨rfl, Hm6.out⟩
    · obtain rfl : k = b := by omega
      have hwb : d'.wiped k (k - k) wrb = if wrb = true then (d'.flushE, d'.flush) else (0, d') := by rw [Nat.sub_self, Dv.wiped]
      cases wrb with
      | false =>
        have Hw := Lib.hid (Hp.out.trans (hwb.trans (if_neg (by simp))))
        clear hwb
        go_wp2
        go_ret
        rw [Hw.out]
        exact ⟨rfl, Hfin.out wr d' (MovedD.refl Hdr.out)⟩
      | true =>
        have Hw := Lib.hid (Hp.out.trans (hwb.trans (if_pos rfl)))
        have Hfl := Lib.hid (Flush_any B g s r1 d' wr Hdr.out (by omega))
        clear hwb
        go_wp2_with (go_at_call 131; refine Hfl.out.mono ?_; rintro e w6 ⟨rfl, hmv⟩; have Hm6 := Lib.hid (Hfin.out w6 _ hmv); clear hmv)
        go_ret
        rw [Hw.out]
        exact ⟨rfl, Hm6.out⟩
end Go.Proofs.YtdlgihgdpdiglaaGreat

namespace Go.Proofs.YtdlgihgdpdiglaaGreat
open Go.ChangeShapes Go.WideShapes Go.ChangeAt Go.RowKit Go.Maps
set_option linter.unusedVariables false

/-- the blocks of a device -/
def FootD (g s : Nat) (r : Option Nat) (k : Nat) : Prop := k = g ∨ k = s ∨ r = some k
/-- a journal at j, made since the world w; of what was there only the device may have turned -/
def NewJ (w : World) (B g s : Nat) (r : Option Nat) (j : Nat) (J : Jn) (wr : World) : Prop :=
  ∃ r1 q1, IsJ wr B g s r1 j q1 J ∧ (∀ k, r1 = some k → r = some k ∨ w.heap.size ≤ k) ∧ (∀ k, q1 = some k → w.heap.size ≤ k) ∧ w.heap.size ≤ j ∧ Turned (FootD g s r) w wr
theorem NewJ.moved {w wr w' : World} {B g s j : Nat} {r r1 q1 : Option Nat} {J' : Jn} (h2 : ∀ k, r1 = some k → r = some k ∨ w.heap.size ≤ k) (h3 : ∀ k, q1 = some k → w.heap.size ≤ k) (h4 : w.heap.size ≤ j) (h5 : Turned (FootD g s r) w wr) (k : MovedJ B g s r1 j q1 J' wr w') : NewJ w B g s r j J' w' := by
  obtain ⟨r2, q2, k1, k2, k3, k4⟩ := k
  refine ⟨r2, q2, k1, fun i hi => ?_, fun i hi => ?_, h4, h5.trans k4 (fun _ e => e) fun i hi e => ?_⟩
  · rcases k2 i hi with e | e
    · exact h2 i e
    · exact .inr (Nat.le_trans h5.size e)
  · rcases k3 i hi with e | e
    · exact h3 i e
    · exact Nat.le_trans h5.size e
  · rcases e with e | e | e | e | e
    · exact .inl e
    · exact .inr (.inl e)
    · omega
    · rcases h2 i e with e | e
      · exact .inr (.inr e)
      · omega
    · have := h3 i e; omega
theorem NewJ.below {w wr w' : World} {B g s j : Nat} {r : Option Nat} {J : Jn} (h : NewJ w B g s r j J wr) (hb : Below wr.heap.size wr w') : NewJ w B g s r j J w' := by
  obtain ⟨r1, q1, h1, h2, h3, h4, h5⟩ := h
  exact ⟨r1, q1, h1.below hb, h2, h3, h4, h5.trans (Turned.of_below (p := fun _ => False) hb) (fun _ e => e) (fun _ _ e => e.elim)⟩
theorem NewJ.dev {w wr : World} {B g s j : Nat} {r : Option Nat} {J : Jn} (h : NewJ w B g s r j J wr) : MovedD B g s r J.d w wr := by
  obtain ⟨r1, q1, h1, h2, h3, h4, h5⟩ := h
  exact ⟨r1, h1.dev, h2, h5⟩
theorem NewJ.lt {w wr : World} {B g s j : Nat} {r : Option Nat} {J : Jn} (h : NewJ w B g s r j J wr) : B ≤ wr.heap.size ∧ w.heap.size ≤ wr.heap.size := by
  obtain ⟨r1, q1, h1, _, _, _, h5⟩ := h
  have := h1.lt j (.inr (.inr (.inl rfl)))
  exact ⟨by omega, h5.size⟩
/-- behind what moved the device -/
theorem NewJ.after {w w1 wr : World} {B g s j : Nat} {r r1 : Option Nat} {J : Jn} (h2 : ∀ k, r1 = some k → r = some k ∨ w.heap.size ≤ k) (h3 : Turned (FootD g s r) w w1) (h : NewJ w1 B g s r1 j J wr) : NewJ w B g s r j J wr := by
  obtain ⟨r2, q2, k1, k2, k3, k4, k5⟩ := h
  refine ⟨r2, q2, k1, fun i hi => ?_, fun i hi => Nat.le_trans h3.size (k3 i hi), Nat.le_trans h3.size k4, Turned.trans h3 k5 (fun _ e => e) fun i hi e => ?_⟩
  · rcases k2 i hi with e | e
    · exact h2 i e
    · exact .inr (Nat.le_trans h3.size e)
  · rcases e with e | e | e
    · exact .inl e
    · exact .inr (.inl e)
    · rcases h2 i e with e | e
      · exact .inr (.inr e)
      · omega

/-- Open of a part in which these records stand -/
theorem JOpen_is (B g s : Nat) (r : Option Nat) (d : Dv) (n a m gen : Nat) (os : List (List UInt8)) (w : World) (h : IsD w B g s r d) (hu : d.Up) (hL : d.L = []) (hn : d.n = n) (ham : a + m ≤ n) (hg : gen ≤ 1099511627776) (hs : Scanned gen (d.part a m) os) :
    Calls Tryz.prog 133 #[.pointer (some ⟨g, 0, none⟩), .int .i64 (a : Int), .int .i64 (m : Int), .int .i64 (gen : Int)] w fun e w' => ∃ j A k c J, e = .returned (.tuple #[.pointer (some ⟨j, 0, none⟩), .slice A k c, .int .i64 0]) ∧
      NewJ w B g s r j J w' ∧ RunP J n a m gen d.view os [] ∧ J.d.L = [] := by
  refine (JOpen_any B g s r d a m gen w h (by rw [hL]; simp) hu.2 (by rw [hn]; exact ham) hg).mono ?_
  rintro e w' ⟨ts, hts, hle, hway⟩
  obtain rfl : ts = os := hts.one hs
  obtain ⟨d', h1, h2, h3⟩ := RunP.opened hu h.1 hn ham hg hs
  rw [h1] at hway
  rcases hway with ⟨hx, _⟩ | ⟨_, j, A, k, c, r', rfl, hj, hJ, hr, ht, htx⟩
  · exact absurd rfl hx
  · refine ⟨j, A, k, c, _, rfl, ⟨r', none, hJ, hr, (fun k e => by cases e), hj, ht⟩, h2, ?_⟩
    rcases h3 with e | e
    · exact e
    · show d'.L = []
      rw [e]; exact hL

/-- a part of zeros is shown as zeros -/
theorem part_zeros {d : Dv} {V : List UInt8} {n a m : Nat} (hv : d.view = put V (64 * a) (List.replicate (64 * m) 0)) (hV : V.length = n * 64) (ham : a + m ≤ n) : d.part a m = List.replicate (64 * m) 0 := by
  have h1 : (V.take (64 * a)).length = 64 * a := by rw [List.length_take, hV]; omega
  unfold Dv.part
  rw [hv]
  unfold put
  rw [List.append_assoc, List.drop_left' h1, List.take_left' (by simp)]
theorem laid_put {V x : List UInt8} {n a m : Nat} (hV : V.length = n * 64) (ham : a + m ≤ n) : laidAt (put V (64 * a) (List.replicate (64 * m) 0)) a m x = laidAt V a m x := by
  have h1 : (V.take (64 * a)).length = 64 * a := by rw [List.length_take, hV]; omega
  unfold laidAt put
  congr 1
  · rw [List.append_assoc, List.take_left' h1]
  · congr 1
    rw [List.length_replicate, show 64 * (a + m) = 64 * a + 64 * m by omega]
    rw [List.drop_left' (by rw [List.length_append, h1, List.length_replicate])]

set_option maxRecDepth 100000 in
set_option maxHeartbeats 2000000 in
theorem layDown_any (B g s : Nat) (r : Option Nat) (d : Dv) (n q p gen : Nat) (ts : List (List UInt8)) (A : Option Addr) (k c : Nat) (w : World) (h : IsD w B g s r d) (hu : d.Up) (hL : d.L = []) (hn : d.n = n) (hq : n / 4 = q) (hp : p + q ≤ n) (hg : gen ≤ 1099511627776)
    (hk : ts.length = k) (hsm : ∀ t ∈ ts, t.length ≤ 930) (hroom : secsUp gen 0 ts ≤ q) (hts : ∀ w', Turned (FootD g s r) w w' → TextsSeen w' A ts) :
    Calls Tryz.prog 217 #[.pointer (some ⟨g, 0, none⟩), .int .i64 (p : Int), .int .i64 (gen : Int), .slice A k c] w fun e w' => e = .returned (.int .i64 0) ∧
      ∃ d', MovedD B g s r d' w w' ∧ d'.Up ∧ d'.n = n ∧ d'.L = [] ∧ d'.view = laidAt d.view p q (formsX 1 gen 0 ts ++ List.replicate (64 * (q - secsUp gen 0 ts)) 0) := by
  have H := Lib.hid h
  have hn4 := h.1.n
  have hVl := view_length h.1
  subst hn
  have Hts := Lib.hid hts; have Hsm := Lib.hid hsm; have Hroom := Lib.hid hroom; have Hk := Lib.hid hk; have Hq := Lib.hid hq
  have hkq : k ≤ q := by have := secsUp_ge gen 0 ts; omega
  have hqn : q ≤ 1024 := by omega
  obtain ⟨d1, w1, w2, w3, w4, w5, w6⟩ := up_wiped q d p false hu h.1 (by omega)
  have hL1 : d1.L = [] := by
    rcases w6 with e | e
    · exact e
    · rw [e]; exact hL
  have Hwipe := Lib.hid (vwipe_any B g s r d p (p + q) w h (by rw [hL]; simp) hu.2 (by omega) (by omega))
  rw [show p + q - p = q by omega, w1] at Hwipe
  have HL1 := Lib.hid hL1; have W2 := Lib.hid w2; have W4 := Lib.hid w4; have W5 := Lib.hid w5
  have Hadd := Lib.hid (show (p : Int) + (q : Int) = ((p + q : Nat) : Int) by omega)
  clear h hu hts hsm hroom hk hq w1 w2 w3 w4 w5 w6 hL1 hL
  have hpq : p + q ≤ 4096 := by omega
  go_enter Tryz.func217, Tryz.ntmps217
  go_wp2_with fail
  refine (quarter_any B g s r d w H.out).mono ?_
  rw [Hq.out]
  rintro e w0 ⟨rfl, rfl⟩
  go_wp2_with fail
  rw [Hadd.out]
  refine Hwipe.out.mono ?_
  rintro e w1 ⟨rfl, hm1⟩
  obtain ⟨r1, hd1, hr1, ht1⟩ := hm1
  have Hd1 := Lib.hid hd1; have Hr1 := Lib.hid hr1; have Ht1 := Lib.hid ht1
  clear hd1 hr1 ht1
  go_wp2_with fail
  refine (quarter_any B g s r1 d1 w1 Hd1.out).mono ?_
  rw [W4.out, Hq.out]
  rintro e w2 ⟨rfl, rfl⟩
  have hpz := part_zeros W5.out hVl hp
  have hopen := JOpen_is B g s r1 d1 d.n p q gen [] w1 Hd1.out W2.out HL1.out W4.out hp hg (by rw [hpz]; exact scanned_zeros _ _)
  have Hopen := Lib.hid hopen
  clear hpz hopen
  go_wp2_with fail
  refine Hopen.out.mono ?_
  rintro e w2 ⟨j, A1, k1, c1, J, rfl, hnj, hrp, hJL⟩
  have Hnj := Lib.hid (NewJ.after Hr1.out Ht1.out hnj)
  have Hrp := Lib.hid hrp; have HJL := Lib.hid hJL
  have Hlay := Lib.hid (show ∀ x, laidAt d1.view p q x = laidAt d.view p q x from fun x => by rw [W5.out]; exact laid_put hVl hp)
  clear hnj hrp hJL
  go_wp2
  go_loopw [41] (fun iv wr => ∃ (i : Nat) (J' : Jn), iv = .int .i64 (i : Int) ∧ i ≤ k ∧ NewJ w B g s r j J' wr ∧ RunP J' d.n p q gen d1.view [] (ts.take i) ∧ J'.d.L.length ≤ secsUp gen 0 (ts.take i)) (fun iv _ => k - (intOf iv).toNat)
  case atStart => exact ⟨0, J, rfl, Nat.zero_le _, Hnj.out, Hrp.out, by rw [HJL.out]; exact Nat.zero_le _⟩
  case round =>
    obtain ⟨i, J', rfl, hik, hnj', hrp', hL'⟩ := hrel
    have Hnj' := Lib.hid hnj'; have Hrp' := Lib.hid hrp'; have HL' := Lib.hid hL'
    clear hnj' hrp' hL'
    obtain ⟨r2, q2, hJ2, hr2, hq2, hj2, ht2⟩ := Hnj'.out
    have HJ2 := Lib.hid hJ2
    have Hmv := Lib.hid (fun J2 w' (hm : MovedJ B g s r2 j q2 J2 wr w') => NewJ.moved hr2 hq2 hj2 ht2 hm)
    have hBw := Hnj'.out.lt.1
    have Htx := Lib.hid (Hts.out wr ht2)
    clear hJ2 hr2 hq2 hj2 ht2
    by_cases hlt : i < k
    · obtain ⟨t, ht⟩ : ∃ t, ts[i]? = some t := ⟨ts[i]'(by have := Hk.out; omega), List.getElem?_eq_getElem _⟩
      have htl := Hsm.out t (List.mem_of_getElem? ht)
      obtain ⟨gt, ot, At, nt, ct, rfl, hcell, hnt, hnt6, hseen⟩ := Htx.out.at_ ht
      have Hst := Lib.hid (secsUp_take (gen := gen) ht)
      have htk : ts.take (i + 1) = ts.take i ++ [t] := by
        obtain ⟨hlt', e⟩ := List.getElem?_eq_some_iff.1 ht
        rw [List.take_succ_eq_append_getElem hlt', e]
      have Htk := Lib.hid htk
      have hlen : (ts.take i).length = i := by rw [List.length_take]; have := Hk.out; omega
      have hpre : secsUp gen 0 (ts.take (i + 1)) ≤ q := by
        have e : ts = ts.take (i + 1) ++ ts.drop (i + 1) := (List.take_append_drop _ _).symm
        have := Hroom.out
        rw [e, secsUp_append] at this
        omega
      obtain ⟨J2, ha1, ha2, ha3⟩ := Hrp'.out.add (t := t) (form_ok hg (by simp only [List.length_nil]; omega) htl) (by
        rw [List.nil_append, List.length_nil, Nat.zero_add, hlen]
        have := Hst.out
        omega)
      rw [← htk] at ha2
      rw [List.length_nil, Nat.zero_add, hlen] at ha3
      have Ha2 := Lib.hid ha2
      have hL2 : J2.d.L.length ≤ secsUp gen 0 (ts.take (i + 1)) := by rw [ha3, Hst.out]; have := HL'.out; omega
      have HL2 := Lib.hid hL2
      have hjk : J'.k < 1000000 := by rw [Hrp'.out.jk, hlen]; simp; omega
      have hjl : J'.L.length < 100000 := by rw [Hrp'.out.jL, firsts_length, hlen]; omega
      have hdl : J'.d.L.length ≤ 900000 := by have := HL'.out; rw [Hst.out] at hpre; omega
      have hcall := Add_any B g s r2 j q2 J' At nt ct t wr HJ2.out hdl hjk hjl hBw hnt hseen
      rw [ha1] at hcall
      have Hc2 := Lib.hid hcall
      clear htk hlen hpre ha1 ha2 ha3 hL2 hjk hjl hdl hcall hseen hnt ht
      go_wp2_with fail
      refine Hc2.out.mono ?_
      rintro e w6 ⟨rfl, hm6⟩
      have Hn6 := Lib.hid (Hmv.out J2 w6 hm6)
      clear hm6 hcell
      go_wp2
      go_roundw
      case rel => exact ⟨i + 1, J2, by go_num, by omega, Hn6.out, Ha2.out, HL2.out⟩
      case measure => simp [intOf]; omega
    · obtain rfl : i = k := by omega
      obtain ⟨J2, f1, f2, f3⟩ := Hrp'.out.flush
      have hdl : J'.d.L.length ≤ 800000 := by
        have := HL'.out
        rw [List.take_of_length_le (by rw [Hk.out]; exact Nat.le_refl _)] at this
        have := Hroom.out
        omega
      have hcall := JFlush_any B g s r2 j q2 J' wr HJ2.out hdl hBw
      rw [f1] at hcall
      have Hc2 := Lib.hid hcall
      have F2 := Lib.hid f2; have F3 := Lib.hid f3
      clear hcall f1 f2 f3 hdl
      go_wp2_with fail
      refine Hc2.out.mono ?_
      rintro e w6 ⟨rfl, hm6⟩
      have Hn6 := Lib.hid (Hmv.out J2 w6 hm6)
      clear hm6
      go_wp2
      go_ret
      refine ⟨rfl, J2.d, Hn6.out.dev, F2.out.up, F2.out.dn, F3.out, ?_⟩
      rw [F2.out.view, Hlay.out, List.nil_append, List.append_nil, List.take_of_length_le (by rw [Hk.out]; exact Nat.le_refl _)]
      simp [formsX]
end Go.Proofs.YtdlgihgdpdiglaaGreat
end

section
namespace Go.Proofs.YtdlgihgdpdiglaaGreat
open Go.ChangeShapes Go.WideShapes Go.ChangeAt Go.RowKit Go.Maps
set_option linter.unusedVariables false

set_option maxRecDepth 100000 in
set_option maxHeartbeats 1000000 in
theorem openJournal_is (B g s : Nat) (r : Option Nat) (d : Dv) (a m gen : Nat) (os : List (List UInt8)) (w : World) (h : IsD w B g s r d) (hu : d.Up) (hL : d.L = []) (ha : 2 * (d.n / 4) = a) (hm : d.n - a = m) (hg : gen ≤ 1099511627776) (hs : Scanned gen (d.part a m) os) :
    Calls Tryz.prog 69 #[.pointer (some ⟨g, 0, none⟩), .int .i64 (gen : Int)] w fun e w' => ∃ j J, e = .returned (.tuple #[.pointer (some ⟨j, 0, none⟩), .int .i64 0]) ∧
      NewJ w B g s r j J w' ∧ RunP J d.n a m gen d.view os [] ∧ J.d.L = [] := by
  have H := Lib.hid h
  have hn4 := h.1.n
  have Ho := Lib.hid (JOpen_is B g s r d d.n a m gen os w h hu hL rfl (by omega) hg hs)
  have Ha := Lib.hid ha
  have Hsub := Lib.hid (show (d.n : Int) - (a : Int) = (m : Int) by omega)
  have han : a ≤ 4096 := by omega
  clear h hu hL ha hm hs
  go_enter Tryz.func69, Tryz.ntmps69
  go_wp2_with fail
  refine (changesFrom_any B g s r d w H.out).mono ?_
  rw [Ha.out]
  rintro e w1 ⟨rfl, rfl⟩
  go_wp2_with fail
  refine (Len_any B g s r d w H.out).mono ?_
  rintro e w1 ⟨rfl, rfl⟩
  go_wp2_with fail
  rw [Hsub.out]
  refine Ho.out.mono ?_
  rintro e w1 ⟨j, A, k, c, J, rfl, hnj, hrp, hJL⟩
  have Hnj := Lib.hid hnj; have Hrp := Lib.hid hrp; have HJL := Lib.hid hJL
  clear hnj hrp hJL
  go_wp2
  go_ret2
  exact ⟨j, J, rfl, Hnj.out, Hrp.out, HJL.out⟩

/-- what a checkpoint's place holds: nothing, or a checkpoint of a generation -/
abbrev Pl := Option (Nat × Vals)
def plB (q : Nat) : Pl → List UInt8
  | none => List.replicate (64 * q) 0
  | some (g, x) => formsX 1 g 0 (cpTexts x) ++ List.replicate (64 * (q - secsUp g 0 (cpTexts x))) 0
def PlOk (q : Nat) : Pl → Prop
  | none => True
  | some (g, x) => GoodV x ∧ 1 ≤ g ∧ g ≤ 1099511627776 ∧ secsUp g 0 (cpTexts x) ≤ q
def plG : Pl → Nat
  | none => 0
  | some (g, _) => g
def plT : Pl → List (List UInt8)
  | none => []
  | some (_, x) => cpTexts x
theorem cp_forms {g : Nat} {x : Vals} (hx : GoodV x) (hl : x.length ≤ 100000) (hg : g ≤ 1099511627776) : ∀ (i : Nat) t, (cpTexts x)[i]? = some t → formE g (i : Int) t = 0 := fun i t hi => by
  have hlt := (List.getElem?_eq_some_iff.1 hi).1
  rw [cpTexts_length] at hlt
  exact form_ok hg (by omega) (cpTexts_small hx (by omega) t (List.mem_of_getElem? hi))
theorem pl_scanned {q : Nat} {pl : Pl} (h : PlOk q pl) (hq : q ≤ 2000) : Scanned (plG pl) (plB q pl) (plT pl) := by
  cases pl with
  | none => exact scanned_zeros 0 _
  | some p =>
    obtain ⟨h1, h2, h3, h4⟩ := h
    have := secsUp_ge p.1 0 (cpTexts p.2)
    rw [cpTexts_length] at this
    exact scanned_forms (cp_forms h1 (by omega) h3)
/-- the guess of the generation -/
theorem pl_guess {q : Nat} {pl : Pl} (h : PlOk q pl) (hq : 1 ≤ q) : ∃ l, rdNum (((plB q pl).take 64).drop 3) 0 1099511627776 = (plG pl, l, 0) := by
  cases pl with
  | none =>
    refine ⟨List.replicate 60 0, ?_⟩
    have e : ((plB q none).take 64).drop 3 = numB 0 ++ List.replicate 60 0 := by
      rw [numB_lt (by omega)]
      unfold plB
      rw [List.take_replicate, List.drop_replicate, Nat.min_eq_left (by omega)]
      rfl
    rw [e]
    exact rdNum_numB (by omega) (by omega) _
  | some p =>
    obtain ⟨h1, h2, h3, h4⟩ := h
    have hl := numB_len9 (n := p.1) (by omega)
    obtain ⟨c, hc⟩ : ∃ c, plB q (some p) = headOf 1 (restB p.1 0 (numB p.2.length)).length ++ (numB p.1 ++ c) := by
      obtain ⟨c0, hc0⟩ : numB p.1 <+: restB p.1 0 (numB p.2.length) := ((List.prefix_append _ _).trans (List.prefix_append _ _)).trans (List.prefix_append _ _)
      refine ⟨c0 ++ (padOf (restB p.1 0 (numB p.2.length)).length ++ (formsX 1 p.1 1 (p.2.map keyText) ++ List.replicate (64 * (q - secsUp p.1 0 (cpTexts p.2))) 0)), ?_⟩
      rw [← List.append_assoc (numB p.1), hc0]
      unfold plB
      simp only [cpTexts, formsX, formX, List.append_assoc, Nat.zero_add]
    refine ⟨c.take (61 - (numB p.1).length), ?_⟩
    have e : ((plB q (some p)).take 64).drop 3 = numB p.1 ++ c.take (61 - (numB p.1).length) := by
      rw [hc, List.drop_take]
      show (numB p.1 ++ c).take 61 = _
      rw [List.take_append, List.take_of_length_le (by omega)]
    rw [e]
    exact rdNum_numB (by show (p.1 : Int) ≤ _; omega) (by omega) _
theorem plB_length {q : Nat} {pl : Pl} (h : PlOk q pl) : (plB q pl).length = 64 * q := by
  cases pl with
  | none => simp [plB]
  | some p =>
    obtain ⟨h1, h2, h3, h4⟩ := h
    unfold plB
    rw [List.length_append, formsX_length, List.length_replicate]
    omega

/-- what checkpointAt hands back -/
def AtRet (w : World) (pl : Pl) (en : Ending) (w' : World) : Prop := match pl with
  | none => en = .returned (.tuple #[.int .i64 0, .map none, .int .i64 0]) ∧ Below w.heap.size w w'
  | some (g, x) => ∃ m, en = .returned (.tuple #[.int .i64 (g : Int), .map (some m), .int .i64 0]) ∧ ValsAt w' w.heap.size m x ∧ Below w.heap.size w w'

set_option maxRecDepth 100000 in
set_option maxHeartbeats 2000000 in
theorem checkpointAt_any (B g s : Nat) (r : Option Nat) (d : Dv) (q p : Nat) (pl : Pl) (w : World) (h : IsD w B g s r d) (hu : d.Up) (hL : d.L = []) (hq : d.n / 4 = q) (hq1 : 1 ≤ q) (hp : p + q ≤ d.n) (hpl : PlOk q pl) (hpart : d.part p q = plB q pl) :
    Calls Tryz.prog 29 #[.pointer (some ⟨g, 0, none⟩), .int .i64 (p : Int)] w (AtRet w pl) := by
  have H := Lib.hid h
  have hn4 := h.1.n
  have hqn : q ≤ 1024 := by omega
  have Hq := Lib.hid hq
  have hsec := part_sec h.1 (a := p) (m := q) (u := 0) (j := 0) hp (by omega)
  rw [show p + (0 + 0) = p from rfl, Nat.mul_zero, List.drop_zero, hpart] at hsec
  have hsec2 : newest d.L d.S p = (plB q pl).take 64 := by rw [hsec]; unfold sec; rw [Nat.mul_zero, List.drop_zero]
  have hlen := plB_length hpl
  have hread := Read_any B g s r d p w h (by rw [hL]; simp) hu.2 (by omega)
  rw [hsec2] at hread
  obtain ⟨l, hguess⟩ := pl_guess hpl hq1
  have Hguess := Lib.hid hguess
  have hscan := pl_scanned hpl (by omega)
  rw [← hpart] at hscan
  have Hpl := Lib.hid hpl
  obtain ⟨G, hGe⟩ : ∃ G, plG pl = G := ⟨_, rfl⟩
  have HGe := Lib.hid hGe
  have hG : G ≤ 1099511627776 := by
    cases pl with
    | none => rw [← hGe]; exact Nat.zero_le _
    | some p => rw [← hGe]; exact hpl.2.2.1
  rw [hGe] at Hguess hscan
  have Hscan := Lib.hid hscan
  have Hsc := Lib.hid (fun w' (h' : IsD w' B g s r d) => Scan_any B g s r d p q G w' h' (by rw [hL]; simp) hu.2 hp hG)
  have Hread := Lib.hid hread
  obtain ⟨f, hf⟩ : ∃ f, (plB q pl).take 64 = f := ⟨_, rfl⟩
  have hfl : f.length = 64 := by rw [← hf, List.length_take, hlen]; omega
  have Hfl := Lib.hid hfl
  rw [hf] at Hread Hguess
  clear h hu hL hq hsec hsec2 hlen hread hguess hscan hpl hGe hpart hf hfl
  go_enter Tryz.func29, Tryz.ntmps29
  go_wp2_with fail
  refine Hread.out.mono ?_
  rintro e w1 ⟨pb, rfl, hpb, hblk, hb1⟩
  have hs1 := seen_drop_n (K := 3) (c := 64) (by omega) (Blk.seen hblk) (by rw [Hfl.out]; exact Nat.le_refl _)
  have Hs1 := Lib.hid hs1; have Hb1 := Lib.hid hb1
  have Hd1 := Lib.hid (H.out.below hb1)
  clear hs1 hblk hb1
  go_wp2_with fail
  refine (NewR_any _ 61 61 (f.drop 3) w1 (by rw [List.length_drop, Hfl.out]) (by omega) Hs1.out).mono ?_
  rintro e w2 ⟨gr, rfl, hgr, hr2, hb2⟩
  have Hb2 := Lib.hid (Hb1.out.trans (hb2.mono Hb1.out.size))
  have Hr2 := Lib.hid hr2
  have Hd2 := Lib.hid (Hd1.out.below hb2)
  have hgr2 : w.heap.size ≤ gr := Nat.le_trans Hb1.out.size hgr
  have Hgl := Lib.hid hr2.lt
  clear hr2 hb2
  go_wp2_with fail
  refine (VNum_is gr 0 (f.drop 3) 1099511627776 w2 Hr2.out (by omega) (by omega) Hguess.out).mono ?_
  rintro e w3 ⟨rfl, hr3, ht3⟩
  have hdl := Hd1.out.lt
  have Hd3 := Lib.hid (Hd2.out.turned ht3 (by omega) (by omega) (fun k hk e => by have := (hdl.2.2.2.2 k hk).2; omega))
  have Hb3 := Lib.hid (Hb2.out.trans (ht3.below (fun k hk => by rw [hk]; exact hgr2) Hb2.out.size))
  clear hr3 ht3 hdl
  go_wp2_with fail
  refine (quarter_any B g s r d w3 Hd3.out).mono ?_
  rw [Hq.out]
  rintro e w4 ⟨rfl, rfl⟩
  go_wp2_with fail
  refine (Hsc.out w3 Hd3.out).mono ?_
  rintro e w4 ⟨hb4, ts, A4, n4, c4, rfl, hsc4, htx4⟩
  have Hb4 := Lib.hid (Hb3.out.trans (hb4.mono Hb3.out.size))
  obtain rfl : ts = plT pl := hsc4.one Hscan.out
  have Htx := Lib.hid htx4
  have hn4' := htx4.len
  clear hb4 hsc4 htx4
  cases pl with
  | none =>
    obtain rfl : n4 = 0 := hn4'.symm
    go_wp2_with fail
    refine (valuesOf_nil A4 c4 w4).mono ?_
    rintro e w5 ⟨rfl, rfl⟩
    go_wp2
    go_ret3
    exact ⟨rfl, Hb4.out⟩
  | some px =>
    obtain ⟨gx, x⟩ := px
    obtain rfl : gx = G := HGe.out
    obtain ⟨k1, k2, k3, k4⟩ := Hpl.out
    have hxl := secsUp_ge gx 0 (cpTexts x)
    rw [cpTexts_length] at hxl
    obtain ⟨n, hn⟩ : ∃ n, x.length = n := ⟨_, rfl⟩
    have hn5 : n4 = n + 1 := by rw [← hn4']; show (cpTexts x).length = _; rw [cpTexts_length, hn]
    subst hn5
    have hcap := own_cap0 Htx.out.own.choose_spec.1
    rw [hn] at hxl
    have Hn := Lib.hid hn
    have hn1 : n ≤ 10000 := by omega
    clear hn4' k1 k2 k3 k4
    go_wp2_with fail
    refine (valuesOf_cp x A4 n c4 w4 Hpl.out.1 Hn.out hn1 hcap.1 hcap.2 Htx.out.seen).mono ?_
    rintro e w5 ⟨m, rfl, hv5, hb5⟩
    have Hv5 := Lib.hid (hv5.base Hb4.out.size)
    have Hb5 := Lib.hid (Hb4.out.trans (hb5.mono Hb4.out.size))
    clear hv5 hb5
    go_wp2
    go_ret3
    exact ⟨m, rfl, Hv5.out, Hb5.out⟩
end Go.Proofs.YtdlgihgdpdiglaaGreat

namespace Go.Proofs.YtdlgihgdpdiglaaGreat
open Go.ChangeShapes Go.WideShapes Go.ChangeAt Go.RowKit Go.Maps
set_option linter.unusedVariables false

structure Vt where
  n : Nat
  gen : Nat
  next : Nat
  p0 : Pl
  p1 : Pl
  base : Vals
  cs : List Chg
def Vt.q (st : Vt) : Nat := st.n / 4
def Vt.a (st : Vt) : Nat := 2 * (st.n / 4)
def Vt.m (st : Vt) : Nat := st.n - 2 * (st.n / 4)
def Vt.texts (st : Vt) : List (List UInt8) := st.cs.map Chg.text
def Vt.x (st : Vt) : Vals := onAll st.cs st.base
def Vt.used (st : Vt) : Nat := secsUp st.gen 0 st.texts
def Vt.places (st : Vt) : List UInt8 := plB st.q st.p0 ++ plB st.q st.p1
def Vt.bytes (st : Vt) : List UInt8 := st.places ++ (formsX 1 st.gen 0 st.texts ++ List.replicate (64 * (st.m - st.used)) 0)
structure Vt.Ok (st : Vt) : Prop where
  n8 : 8 ≤ st.n
  n4 : st.n ≤ 4096
  g : st.gen ≤ 1099511627776
  p0 : PlOk st.q st.p0
  p1 : PlOk st.q st.p1
  cs : ∀ c ∈ st.cs, c.Ok
  room : st.used ≤ st.m
  cur : (st.gen = 0 ∧ st.next = 0 ∧ st.p0 = none ∧ st.p1 = none ∧ st.base = []) ∨ (1 ≤ st.gen ∧ st.next = st.q ∧ st.p0 = some (st.gen, st.base) ∧ plG st.p1 < st.gen) ∨ (1 ≤ st.gen ∧ st.next = 0 ∧ st.p1 = some (st.gen, st.base) ∧ plG st.p0 < st.gen)
theorem Vt.texts_length (st : Vt) : st.texts.length = st.cs.length := by simp [Vt.texts]
theorem Vt.Ok.qn {st : Vt} (h : st.Ok) : 2 ≤ st.q ∧ st.q ≤ 1024 ∧ st.a = 2 * st.q ∧ st.a + st.m = st.n ∧ st.q + st.q ≤ st.n := by
  have := h.n8; have := h.n4
  unfold Vt.q Vt.a Vt.m
  omega
theorem pl_length {q : Nat} {p : Nat × Vals} (h : PlOk q (some p)) : p.2.length < q := by
  have := secsUp_ge p.1 0 (cpTexts p.2)
  rw [cpTexts_length] at this
  have := h.2.2.2
  show p.2.length < q
  omega
theorem Vt.Ok.base {st : Vt} (h : st.Ok) : GoodV st.base ∧ st.base.length ≤ 1024 := by
  have hq := h.qn
  rcases h.cur with ⟨_, _, _, _, e⟩ | ⟨_, _, e, _⟩ | ⟨_, _, e, _⟩
  · rw [e]; exact ⟨GoodV.nil, Nat.zero_le _⟩
  · have := h.p0; rw [e] at this; exact ⟨this.1, by have := pl_length this; simp only at this; omega⟩
  · have := h.p1; rw [e] at this; exact ⟨this.1, by have := pl_length this; simp only at this; omega⟩
theorem Vt.Ok.few {st : Vt} (h : st.Ok) : st.cs.length ≤ 4096 := by
  have := secsUp_ge st.gen 0 st.texts
  rw [st.texts_length] at this
  have h1 := h.room; have h2 := h.qn; have h3 := h.n4
  unfold Vt.used at h1
  omega
theorem onAll_length : ∀ (cs : List Chg) (x : Vals), (onAll cs x).length ≤ x.length + cs.length
  | [], _ => Nat.le_refl _
  | c :: r, x => by
    have h1 := onAll_length r (c.on x)
    have h2 := c.on_length x
    simp only [onAll, List.foldl_cons, List.length_cons] at *
    omega
theorem Vt.Ok.good {st : Vt} (h : st.Ok) : GoodV st.x := onAll_good h.cs h.base.1
theorem Vt.Ok.xlen {st : Vt} (h : st.Ok) : st.x.length ≤ 5120 := by
  have h1 := onAll_length st.cs st.base
  have h2 := h.base.2; have h3 := h.few
  unfold Vt.x
  omega
theorem Vt.Ok.small {st : Vt} (h : st.Ok) : ∀ t ∈ st.texts, t.length ≤ 930 := fun t ht => by
  obtain ⟨c, hc, rfl⟩ := List.mem_map.1 ht
  have := c.text_len (h.cs c hc)
  omega
theorem Vt.Ok.forms {st : Vt} (h : st.Ok) : ∀ (i : Nat) t, st.texts[i]? = some t → formE st.gen (i : Int) t = 0 := fun i t hi => by
  have hlt := (List.getElem?_eq_some_iff.1 hi).1
  rw [st.texts_length] at hlt
  have := h.few
  exact form_ok h.g (by omega) (h.small t (List.mem_of_getElem? hi))
theorem Vt.Ok.places_length {st : Vt} (h : st.Ok) : st.places.length = 64 * st.a := by
  have := h.qn
  unfold Vt.places
  rw [List.length_append, plB_length h.p0, plB_length h.p1]
  omega
theorem Vt.Ok.rest_length {st : Vt} (h : st.Ok) : (formsX 1 st.gen 0 st.texts ++ List.replicate (64 * (st.m - st.used)) 0).length = 64 * st.m := by
  have := h.room
  unfold Vt.used at *
  rw [List.length_append, formsX_length, List.length_replicate]
  omega
theorem Vt.Ok.bytes_length {st : Vt} (h : st.Ok) : st.bytes.length = st.n * 64 := by
  have := h.qn
  unfold Vt.bytes
  rw [List.length_append, h.places_length, h.rest_length]
  omega
/-- the device shows it, and nothing waits -/
structure DevOk (d : Dv) (st : Vt) : Prop where
  up : d.Up
  n : d.n = st.n
  L : d.L = []
  view : d.view = st.bytes
theorem DevOk.part0 {d : Dv} {st : Vt} (h : DevOk d st) (k : st.Ok) : d.part 0 st.q = plB st.q st.p0 := by
  unfold Dv.part
  rw [h.view, Nat.mul_zero, List.drop_zero]
  unfold Vt.bytes Vt.places
  rw [List.append_assoc, List.take_left' (plB_length k.p0)]
theorem DevOk.part1 {d : Dv} {st : Vt} (h : DevOk d st) (k : st.Ok) : d.part st.q st.q = plB st.q st.p1 := by
  unfold Dv.part
  rw [h.view]
  unfold Vt.bytes Vt.places
  rw [List.append_assoc, List.drop_left' (plB_length k.p0), List.take_left' (plB_length k.p1)]
theorem DevOk.part2 {d : Dv} {st : Vt} (h : DevOk d st) (k : st.Ok) : d.part st.a st.m = formsX 1 st.gen 0 st.texts ++ List.replicate (64 * (st.m - st.used)) 0 := by
  unfold Dv.part
  rw [h.view]
  unfold Vt.bytes
  rw [List.drop_left' k.places_length, List.take_of_length_le (by rw [k.rest_length]; exact Nat.le_refl _)]
theorem DevOk.scanned {d : Dv} {st : Vt} (h : DevOk d st) (k : st.Ok) : Scanned st.gen (d.part st.a st.m) st.texts := by
  rw [h.part2 k]
  exact scanned_forms k.forms
theorem DevOk.scanned_no {d : Dv} {st : Vt} (h : DevOk d st) (k : st.Ok) {other : Nat} (hne : st.gen ≠ other) : Scanned other (d.part st.a st.m) [] := by
  rw [h.part2 k]
  exact scanned_other hne k.forms

/-- a vault's journal: the records of the changes in their part, all flushed -/
structure JouOk (J : Jn) (st : Vt) : Prop where
  run : ∃ V, RunP J st.n st.a st.m st.gen V st.texts [] ∧ V.take (64 * st.a) = st.places
  L : J.d.L = []
theorem JouOk.dev {J : Jn} {st : Vt} (h : JouOk J st) (k : st.Ok) : DevOk J.d st := by
  obtain ⟨V, h1, h2⟩ := h.run
  have hq := k.qn
  refine ⟨h1.up, h1.dn, h.L, ?_⟩
  rw [h1.view]
  unfold laidAt
  rw [h2, hq.2.2.2.1, List.drop_of_length_le (by rw [h1.vlen]; omega), List.append_nil, List.append_nil]
  show st.places ++ (formsX 1 st.gen 0 st.texts ++ (formsX 0 st.gen _ [] ++ _)) = _
  rw [show formsX 0 st.gen st.texts.length [] = [] from rfl, List.nil_append]
  rfl
/-- as journal.Open makes it of what the device shows -/
theorem JouOk.opened {J : Jn} {d : Dv} {st : Vt} (h : DevOk d st) (k : st.Ok) (hr : RunP J st.n st.a st.m st.gen d.view st.texts []) (hL : J.d.L = []) : JouOk J st := by
  refine ⟨⟨d.view, hr, ?_⟩, hL⟩
  rw [h.view]
  unfold Vt.bytes
  rw [List.take_left' k.places_length]

/-! ### a change -/
def Vt.noted (st : Vt) (c : Chg) : Vt := { st with cs := st.cs ++ [c] }
def Vt.turned (st : Vt) (c : Chg) : Vt :=
  { st with gen := st.gen + 1, next := st.q - st.next, base := c.on st.x, cs := [],
            p0 := if st.next = 0 then some (st.gen + 1, c.on st.x) else st.p0, p1 := if st.next = 0 then st.p1 else some (st.gen + 1, c.on st.x) }
/-- is there room in the journal -/
def Vt.fits (st : Vt) (c : Chg) : Prop := manyOf st.gen st.cs.length c.text ≤ st.m - st.used
/-- has the next checkpoint room -/
def Vt.turns (st : Vt) (c : Chg) : Prop := st.gen + 1 ≤ 1099511627776 ∧ secsUp (st.gen + 1) 0 (cpTexts (c.on st.x)) ≤ st.q
theorem Vt.noted_x (st : Vt) (c : Chg) : (st.noted c).x = c.on st.x := onAll_snoc _ _ _
theorem Vt.turned_x (st : Vt) (c : Chg) : (st.turned c).x = c.on st.x := rfl
theorem Vt.noted_texts (st : Vt) (c : Chg) : (st.noted c).texts = st.texts ++ [c.text] := by simp [Vt.texts, Vt.noted]
theorem Vt.Ok.noted {st : Vt} (h : st.Ok) {c : Chg} (hc : c.Ok) (hf : st.fits c) : (st.noted c).Ok := by
  refine ⟨h.n8, h.n4, h.g, h.p0, h.p1, fun d hd => ?_, ?_, h.cur⟩
  · simp only [Vt.noted, List.mem_append, List.mem_singleton] at hd
    rcases hd with hd | rfl
    · exact h.cs d hd
    · exact hc
  · show secsUp st.gen 0 (st.noted c).texts ≤ st.m
    rw [st.noted_texts, secsUp_snoc, Nat.zero_add, st.texts_length]
    have := h.room
    unfold Vt.used at this
    unfold Vt.fits Vt.used at hf
    omega
theorem Vt.Ok.next {st : Vt} (h : st.Ok) : st.next = 0 ∨ st.next = st.q := by
  rcases h.cur with ⟨_, e, _⟩ | ⟨_, e, _⟩ | ⟨_, e, _⟩
  · exact .inl e
  · exact .inr e
  · exact .inl e
theorem Vt.Ok.turned {st : Vt} (h : st.Ok) {c : Chg} (hc : c.Ok) (ht : st.turns c) : (st.turned c).Ok := by
  have hq := h.qn
  have hnew : PlOk st.q (some (st.gen + 1, c.on st.x)) := ⟨Chg.on_good hc h.good, by omega, ht.1, ht.2⟩
  refine ⟨h.n8, h.n4, ht.1, ?_, ?_, (fun d hd => by cases hd), Nat.zero_le _, ?_⟩
  · show PlOk st.q (if st.next = 0 then _ else _)
    split
    · exact hnew
    · exact h.p0
  · show PlOk st.q (if st.next = 0 then _ else _)
    split
    · exact h.p1
    · exact hnew
  · show _ ∨ (1 ≤ st.gen + 1 ∧ st.q - st.next = st.q ∧ (if st.next = 0 then some (st.gen + 1, c.on st.x) else st.p0) = some (st.gen + 1, c.on st.x) ∧ plG (if st.next = 0 then st.p1 else some (st.gen + 1, c.on st.x)) < st.gen + 1) ∨
      (1 ≤ st.gen + 1 ∧ st.q - st.next = 0 ∧ (if st.next = 0 then st.p1 else some (st.gen + 1, c.on st.x)) = some (st.gen + 1, c.on st.x) ∧ plG (if st.next = 0 then some (st.gen + 1, c.on st.x) else st.p0) < st.gen + 1)
    rcases h.cur with ⟨e1, e2, e3, e4, e5⟩ | ⟨e1, e2, e3, e4⟩ | ⟨e1, e2, e3, e4⟩
    · rw [if_pos e2, if_pos e2]
      exact .inr (.inl ⟨by omega, by omega, rfl, by rw [e4]; show 0 < _; omega⟩)
    · rw [if_neg (by omega), if_neg (by omega)]
      exact .inr (.inr ⟨by omega, by omega, rfl, by rw [e3]; show st.gen < _; omega⟩)
    · rw [if_pos e2, if_pos e2]
      exact .inr (.inl ⟨by omega, by omega, rfl, by rw [e3]; show st.gen < _; omega⟩)
/-- the places behind a turn -/
theorem Vt.Ok.laid {st : Vt} (h : st.Ok) {c : Chg} {X : List UInt8} (hX : X = plB st.q (some (st.gen + 1, c.on st.x))) :
    laidAt st.bytes st.next st.q X = (st.turned c).places ++ (formsX 1 st.gen 0 st.texts ++ List.replicate (64 * (st.m - st.used)) 0) := by
  have hq := h.qn
  unfold laidAt Vt.bytes Vt.places
  rcases h.next with e | e
  · have e1 : (st.turned c).p0 = some (st.gen + 1, c.on st.x) := if_pos e
    have e2 : (st.turned c).p1 = st.p1 := if_pos e
    rw [e1, e2, e, Nat.mul_zero, List.take_zero, List.nil_append, Nat.zero_add, hX, List.append_assoc, List.drop_left' (plB_length h.p0)]
    show _ = plB st.q _ ++ plB st.q _ ++ _
    rw [List.append_assoc]
  · have e1 : (st.turned c).p0 = st.p0 := if_neg (by omega)
    have e2 : (st.turned c).p1 = some (st.gen + 1, c.on st.x) := if_neg (by omega)
    rw [e1, e2, e, hX]
    show _ = plB st.q _ ++ plB st.q _ ++ _
    have e3 : ∀ C : List UInt8, (plB st.q st.p0 ++ (plB st.q st.p1 ++ C)).drop (64 * (st.q + st.q)) = C := fun C => by
      rw [← List.append_assoc]
      exact List.drop_left' (by rw [List.length_append, plB_length h.p0, plB_length h.p1]; omega)
    rw [List.append_assoc, List.take_left' (plB_length h.p0), e3, List.append_assoc]
/-- the journal of the next generation -/
theorem JouOk.turned {J : Jn} {st : Vt} (h : st.Ok) {c : Chg} (hc : c.Ok) (ht : st.turns c) {V : List UInt8} (hV : V = (st.turned c).places ++ (formsX 1 st.gen 0 st.texts ++ List.replicate (64 * (st.m - st.used)) 0)) (hr : RunP J st.n st.a st.m (st.gen + 1) V [] []) (hL : J.d.L = []) : JouOk J (st.turned c) := by
  refine ⟨⟨V, hr, ?_⟩, hL⟩
  rw [hV]
  exact List.take_left' (h.turned hc ht).places_length
/-- what a device shows behind the laying of the next checkpoint: no record of the next generation in the journal's part -/
theorem Vt.Ok.turn_part {st : Vt} (h : st.Ok) {c : Chg} (hc : c.Ok) (ht : st.turns c) {d : Dv} (hv : d.view = laidAt st.bytes st.next st.q (plB st.q (some (st.gen + 1, c.on st.x)))) :
    Scanned (st.gen + 1) (d.part st.a st.m) [] ∧ d.view = (st.turned c).places ++ (formsX 1 st.gen 0 st.texts ++ List.replicate (64 * (st.m - st.used)) 0) := by
  rw [h.laid rfl] at hv
  refine ⟨?_, hv⟩
  have e : d.part st.a st.m = formsX 1 st.gen 0 st.texts ++ List.replicate (64 * (st.m - st.used)) 0 := by
    have hpl : (st.turned c).places.length = 64 * st.a := (h.turned hc ht).places_length
    unfold Dv.part
    rw [hv, List.drop_left' hpl, List.take_of_length_le (by rw [h.rest_length]; exact Nat.le_refl _)]
  rw [e]
  exact scanned_other (by omega) h.forms
/-- a new device -/
def Vt.new (n : Nat) : Vt := ⟨n, 0, 0, none, none, [], []⟩
theorem Vt.new_ok {n : Nat} (h8 : 8 ≤ n) (h4 : n ≤ 4096) : (Vt.new n).Ok := ⟨h8, h4, Nat.zero_le _, trivial, trivial, fun c hc => (by cases hc), Nat.zero_le _, .inl ⟨rfl, rfl, rfl, rfl, rfl⟩⟩
theorem DevOk.new {n : Nat} (h8 : 8 ≤ n) (h4 : n ≤ 4096) : DevOk (Dv.new n) (Vt.new n) := by
  refine ⟨⟨by show (-1 : Int) < 0; omega, rfl⟩, rfl, rfl, ?_⟩
  have hq := (Vt.new_ok h8 h4).qn
  show List.replicate (n * 64) 0 = (List.replicate (64 * (Vt.new n).q) 0 ++ List.replicate (64 * (Vt.new n).q) 0) ++ ([] ++ List.replicate (64 * ((Vt.new n).m - 0)) 0)
  rw [List.nil_append, List.replicate_append_replicate, List.replicate_append_replicate]
  congr 1
  have : (Vt.new n).n = n := rfl
  omega
end Go.Proofs.YtdlgihgdpdiglaaGreat
end

section
namespace Go.Proofs.YtdlgihgdpdiglaaGreat
open Go.ChangeShapes Go.WideShapes Go.ChangeAt Go.RowKit Go.Maps
set_option linter.unusedVariables false

/-- the kinds of blocks that a vault's methods write -/
def TouchT (T : TypeId) : Prop := T = 79 ∨ T = 184 ∨ T = 218 ∨ T = 243 ∨ T = 256 ∨ T = 83
def MayV (B : Nat) (w : World) (k : Nat) : Prop := B ≤ k ∧ ((∃ cs T fr, w.heap[k]? = some (.cells cs T fr) ∧ TouchT T) ∨ ∃ es c, w.heap[k]? = some (.map es c))
/-- of what was there only such blocks, and maps, may have turned -/
def KeptV (B : Nat) (w w' : World) : Prop := Turned (MayV B w) w w'
theorem KeptV.refl (B : Nat) (w : World) : KeptV B w w := Turned.refl _ _
theorem KeptV.of_below {B : Nat} {w w' : World} (h : Below w.heap.size w w') : KeptV B w w' := Turned.of_below h
theorem KeptV.of_turned {B : Nat} {p : Nat → Prop} {w w' : World} (h : Turned p w w') (hp : ∀ k, k < w.heap.size → p k → MayV B w k) : KeptV B w w' := h.mono hp
theorem KeptV.trans {B : Nat} {a b c : World} (h : KeptV B a b) (k : KeptV B b c) : KeptV B a c := by
  refine Turned.trans h k (fun _ e => e) fun i hi e => ?_
  by_cases hm : MayV B a i
  · exact hm
  · have hb := h.block i hi hm
    obtain ⟨e1, e2⟩ := e
    rw [hb] at e2
    exact ⟨e1, e2⟩
theorem KeptV.below {B : Nat} {w w' : World} (h : KeptV B w w') (hB : B ≤ w.heap.size) : Below B w w' := Turned.below h (fun k hk => hk.1) hB
theorem KeptV.own {B B' : Nat} {w w' : World} (h : KeptV B w w') {e : TypeId} {n z : Nat} {v : Value} {xs : List Value} (ho : w.ownsRow B' e z v n xs) (he : ¬ TouchT e) : w'.ownsRow B' e z v n xs :=
  own65_turned h ho fun k hk hm => by
    obtain ⟨cs, hb⟩ := row_block ho hk
    rcases hm.2 with ⟨cs', T, fr, hb', hT⟩ | ⟨es, c, hb'⟩
    · rw [hb] at hb'
      injection hb' with hb'
      injection hb' with _ e2
      exact he (e2 ▸ hT)
    · rw [hb] at hb'; cases hb'
theorem KeptV.heap {B : Nat} {w w' : World} (h : KeptV B w w') {k : Nat} {cs : Array Value} {T : TypeId} {fr : Nat × Nat} (hk : w.heap[k]? = some (.cells cs T fr)) (he : ¬ TouchT T) : w'.heap[k]? = some (.cells cs T fr) :=
  Turned.heap h hk fun hm => by
    rcases hm.2 with ⟨cs', T', fr', hb', hT⟩ | ⟨es, c, hb'⟩
    · rw [hk] at hb'
      injection hb' with hb'
      injection hb' with _ e2
      exact he (e2 ▸ hT)
    · rw [hk] at hb'; cases hb'

theorem IsJ.kinds {w : World} {B g s : Nat} {r : Option Nat} {j : Nat} {q : Option Nat} {J : Jn} (h : IsJ w B g s r j q J) : ∀ k, FootJ g s r j q k → ∃ cs T fr, w.heap[k]? = some (.cells cs T fr) ∧ TouchT T ∧ T ≠ 83 := by
  obtain ⟨_, hd, _, _, _, _, _, _, _, _, A, c, hh, hown, hq⟩ := h
  obtain ⟨h1, h2, h3, h4, h5, h6, h7, A', c', h8, h9, h10⟩ := hd
  rintro k (e | e | e | e | e)
  · subst e; exact ⟨_, _, _, h8, .inl rfl, by decide⟩
  · subst e; exact ⟨_, _, _, h7, .inr (.inl rfl), by decide⟩
  · subst e; exact ⟨_, _, _, hh, .inr (.inr (.inr (.inl rfl))), by decide⟩
  · rw [← h10] at e
    obtain ⟨cs, hb⟩ := row_block h9 e
    exact ⟨_, _, _, hb, .inr (.inr (.inl rfl)), by decide⟩
  · rw [← hq] at e
    obtain ⟨cs, hb⟩ := row_block hown e
    exact ⟨_, _, _, hb, .inr (.inr (.inr (.inr (.inl rfl)))), by decide⟩
theorem IsJ.may {w : World} {B g s : Nat} {r : Option Nat} {j : Nat} {q : Option Nat} {J : Jn} (h : IsJ w B g s r j q J) : ∀ k, FootJ g s r j q k → MayV B w k := fun k hk => by
  obtain ⟨cs, T, fr, hb, hT, _⟩ := h.kinds k hk
  exact ⟨(h.lt k hk).1, .inl ⟨cs, T, fr, hb, hT⟩⟩
theorem IsD.kinds {w : World} {B g s : Nat} {r : Option Nat} {d : Dv} (h : IsD w B g s r d) : ∀ k, FootD g s r k → ∃ cs T fr, w.heap[k]? = some (.cells cs T fr) ∧ TouchT T ∧ T ≠ 83 := by
  obtain ⟨h1, h2, h3, h4, h5, h6, h7, A', c', h8, h9, h10⟩ := h
  rintro k (e | e | e)
  · subst e; exact ⟨_, _, _, h8, .inl rfl, by decide⟩
  · subst e; exact ⟨_, _, _, h7, .inr (.inl rfl), by decide⟩
  · rw [← h10] at e
    obtain ⟨cs, hb⟩ := row_block h9 e
    exact ⟨_, _, _, hb, .inr (.inr (.inl rfl)), by decide⟩
theorem IsD.may {w : World} {B g s : Nat} {r : Option Nat} {d : Dv} (h : IsD w B g s r d) : ∀ k, FootD g s r k → MayV B w k := fun k hk => by
  obtain ⟨cs, T, fr, hb, hT, _⟩ := h.kinds k hk
  refine ⟨?_, .inl ⟨cs, T, fr, hb, hT⟩⟩
  have hl := h.lt
  rcases hk with e | e | e
  · omega
  · omega
  · exact (hl.2.2.2.2 k e).1
theorem keptV_dev {w w' : World} {B g s : Nat} {r : Option Nat} {d : Dv} (h : IsD w B g s r d) (ht : Turned (FootD g s r) w w') : KeptV B w w' := ht.mono fun k _ hk => h.may k hk
theorem vault_kept {w w' : World} {p : Nat → Prop} {v : Nat} {cs : Array Value} (hv : w.heap[v]? = some (.cells cs 83 (0, 0))) (ht : Turned p w w') (hp : ∀ k, p k → ∃ cs T fr, w.heap[k]? = some (.cells cs T fr) ∧ TouchT T ∧ T ≠ 83) : w'.heap[v]? = some (.cells cs 83 (0, 0)) :=
  ht.heap hv fun hk => by
    obtain ⟨cs', T, fr, hb, _, hne⟩ := hp v hk
    rw [hv] at hb
    injection hb with hb
    injection hb with _ e2
    exact hne e2.symm
theorem keptV_cell {w : World} {B v j : Nat} {cs : Array Value} (hB : B ≤ v) (hv : w.heap[v]? = some (.cells cs 83 (0, 0))) (u : Value) : KeptV B w (w.setCell ⟨v, j, none⟩ u) :=
  (Turned.setCell (Turned.refl (fun k => k = v) w) (b := ⟨v, j, none⟩) (fun _ => rfl) u).mono fun k _ hk => by
    rw [hk]
    exact ⟨hB, .inl ⟨cs, _, _, hv, .inr (.inr (.inr (.inr (.inr rfl))))⟩⟩
theorem MovedJ.keptV {w w' : World} {B g s : Nat} {r : Option Nat} {j : Nat} {q : Option Nat} {J J2 : Jn} (h : IsJ w B g s r j q J) (hm : MovedJ B g s r j q J2 w w') : KeptV B w w' := by
  obtain ⟨_, _, _, _, _, ht⟩ := hm
  exact ht.mono fun k _ hk => h.may k hk

/-- a vault's cells -/
def vcells (g j m gen next : Nat) : Array Value := #[.pointer (some ⟨g, 0, none⟩), .pointer (some ⟨j, 0, none⟩), .map (some m), .int .i64 (gen : Int), .int .i64 (next : Int), .bool false]
/-- a vault that is read: its values, its generation -/
def ReadV (w : World) (B v gen : Nat) (x : Vals) : Prop := ∃ g j m next, w.heap[v]? = some (.cells (vcells g j m gen next) 83 (0, 0)) ∧ ValsAt w B m x ∧ GoodV x ∧ x.length ≤ 10000
/-- a vault at v over a device at g -/
def IsV (w : World) (B v g s : Nat) (st : Vt) : Prop :=
  st.Ok ∧ ∃ r j q m J, B ≤ v ∧ w.heap[v]? = some (.cells (vcells g j m st.gen st.next) 83 (0, 0)) ∧ IsJ w B g s r j q J ∧ JouOk J st ∧ ValsAt w B m st.x
theorem IsV.ok {w : World} {B v g s : Nat} {st : Vt} (h : IsV w B v g s st) : st.Ok := h.1
theorem IsV.read {w : World} {B v g s : Nat} {st : Vt} (h : IsV w B v g s st) : ReadV w B v st.gen st.x := by
  obtain ⟨ho, r, j, q, m, J, h1, h2, h3, h4, h5⟩ := h
  exact ⟨g, j, m, st.next, h2, h5, ho.good, by have := ho.xlen; omega⟩
theorem IsV.size {w : World} {B v g s : Nat} {st : Vt} (h : IsV w B v g s st) : B ≤ w.heap.size := by
  obtain ⟨ho, r, j, q, m, J, h1, h2, _⟩ := h
  have := (Array.getElem?_eq_some_iff.1 h2).1
  omega
theorem IsV.below {w w' : World} {B v g s : Nat} {st : Vt} (h : IsV w B v g s st) (hb : Below w.heap.size w w') : IsV w' B v g s st := by
  obtain ⟨ho, r, j, q, m, J, h1, h2, h3, h4, h5⟩ := h
  exact ⟨ho, r, j, q, m, J, h1, by rw [hb.block v (Array.getElem?_eq_some_iff.1 h2).1]; exact h2, h3.below hb, h4, h5.below hb⟩
theorem IsV.dev {w : World} {B v g s : Nat} {st : Vt} (h : IsV w B v g s st) : ∃ r d, IsD w B g s r d ∧ DevOk d st := by
  obtain ⟨ho, r, j, q, m, J, h1, h2, h3, h4, h5⟩ := h
  exact ⟨r, J.d, h3.dev, h4.dev ho⟩
theorem ReadV.below {w w' : World} {B v gen : Nat} {x : Vals} (h : ReadV w B v gen x) (hb : Below w.heap.size w w') : ReadV w' B v gen x := by
  obtain ⟨g, j, m, next, h1, h2, h3, h4⟩ := h
  exact ⟨g, j, m, next, by rw [hb.block v (Array.getElem?_eq_some_iff.1 h1).1]; exact h1, h2.below hb, h3, h4⟩
/-- what moves the device alone leaves what a vault reads -/
theorem ReadV.device {w w' : World} {B v gen g s : Nat} {r : Option Nat} {x : Vals} {B' : Nat} {d : Dv} (h : ReadV w B v gen x) (hd : IsD w B' g s r d) (ht : Turned (FootD g s r) w w') : ReadV w' B v gen x := by
  obtain ⟨g', j, m, next, h1, h2, h3, h4⟩ := h
  refine ⟨g', j, m, next, ht.heap h1 fun hk => ?_, h2.turned ht hd.spares, h3, h4⟩
  have : ∃ cs T fr, w.heap[v]? = some (.cells cs T fr) ∧ T ≠ 83 := by
    obtain ⟨d1, d2, d3, d4, d5, d6, d7, A', c', d8, d9, d10⟩ := hd
    rcases hk with e | e | e
    · subst e; exact ⟨_, _, _, d8, by decide⟩
    · subst e; exact ⟨_, _, _, d7, by decide⟩
    · rw [← d10] at e
      obtain ⟨cs, hb⟩ := row_block d9 e
      exact ⟨_, _, _, hb, by decide⟩
  obtain ⟨cs, T, fr, hb, hne⟩ := this
  rw [h1] at hb
  injection hb with hb
  injection hb with _ e2
  exact hne e2.symm

/-- what Get hands back: the key's value, cloned, or nil -/
def GetRet (x : Vals) (k : Int) (w : World) (e : Ending) (w' : World) : Prop :=
  ∃ A c bs, e = .returned (.tuple #[.slice A bs.length c, .bool (hasV x k)]) ∧ w'.ownsRow w.heap.size 5 1 (.slice A bs.length c) bs.length (bytesV bs) ∧ Below w.heap.size w w' ∧ ((hasV x k = true ∧ (k, bs) ∈ x) ∨ (hasV x k = false ∧ bs = []))
theorem Get_any (B v gen : Nat) (x : Vals) (k : Int) (w : World) (h : ReadV w B v gen x) (h1 : -9223372036854775808 ≤ k) (h2 : k ≤ 9223372036854775807) :
    Calls Tryz.prog 71 #[.pointer (some ⟨v, 0, none⟩), .int .i64 k] w (GetRet x k w) := by
  obtain ⟨g, j, m, next, hh, hv, hx, hl⟩ := h
  have c2 : w.cell? ⟨v, 2, none⟩ = some (.map (some m)) := row_cell hh 2
  have Hv := Lib.hid hv
  clear hh hv
  go_enter Tryz.func71, Tryz.ntmps71
  go_wp2_with (at_lookup; refine wpList_lookV rfl _ _ rfl B m x k rfl rfl Hv.out h1 h2 ?_; intro A n c bs hbs hgot; have Hbs := Lib.hid hbs; have Hgot := Lib.hid hgot; clear hbs hgot)
  have hbl : n ≤ 900 := by
    rw [← Hbs.out]
    rcases Hgot.out.2 with ⟨_, h⟩ | ⟨_, h, _⟩
    · exact (hx.all _ h).2.2
    · rw [h]; exact Nat.zero_le _
  have Hs := Lib.hid (show Seen w A (bytesV bs) from by have := Hgot.out.1; rw [Hbs.out] at this; exact Seen.of_own this)
  refine (SClone_any A n c bs w Hbs.out (by omega) Hs.out).mono ?_
  rintro e w1 ⟨A1, c1, rfl, hown1, hb1⟩
  rw [bytes_length, Hbs.out] at hown1 ⊢
  have Hown1 := Lib.hid hown1; have Hb1 := Lib.hid hb1
  clear hown1 hb1
  go_wp2
  go_ret2
  refine ⟨A1, c1, bs, by rw [Hbs.out]; rfl, by rw [Hbs.out]; exact Hown1.out, Hb1.out, ?_⟩
  rcases Hgot.out.2 with h | ⟨h, h', _⟩
  · exact .inl h
  · exact .inr ⟨h, h'⟩
theorem VKeys_any (B v gen : Nat) (x : Vals) (w : World) (h : ReadV w B v gen x) :
    Calls Tryz.prog 142 #[.pointer (some ⟨v, 0, none⟩)] w fun e w' => ∃ A c, e = .returned (.slice A x.length c) ∧ w'.ownsRow w.heap.size 3 1 (.slice A x.length c) x.length (keysV x) ∧ Below w.heap.size w w' := by
  obtain ⟨g, j, m, next, hh, hv, hx, hl⟩ := h
  have c2 : w.cell? ⟨v, 2, none⟩ = some (.map (some m)) := row_cell hh 2
  have Hv := Lib.hid hv
  clear hh hv
  go_enter Tryz.func142, Tryz.ntmps142
  go_wp2_with fail
  refine (Keys_any m w).mono ?_
  rintro e w1 ⟨rfl, rfl⟩
  go_wp2_with fail
  refine (Sorted_any B m x w Hv.out hx.up (by omega)).mono ?_
  rintro e w2 ⟨A, c, rfl, hown, hb⟩
  have Hown := Lib.hid hown; have Hb := Lib.hid hb
  clear hown hb
  go_wp2
  go_ret
  exact ⟨A, c, rfl, Hown.out, Hb.out⟩
end Go.Proofs.YtdlgihgdpdiglaaGreat
end

section
namespace Go.Proofs.YtdlgihgdpdiglaaGreat
open Go.ChangeShapes Go.WideShapes Go.ChangeAt Go.RowKit Go.Maps
set_option linter.unusedVariables false

/-- the blocks of a vault and its device, but for its values -/
def FootV (v m g s j : Nat) (r q : Option Nat) (k : Nat) : Prop := k = v ∨ k = m ∨ FootJ g s r j q k
/-- a vault at v over a device at g, whose blocks are F -/
def IsF (w : World) (B v g s : Nat) (F : Nat → Prop) (st : Vt) : Prop :=
  st.Ok ∧ ∃ r j q m J, B ≤ v ∧ w.heap[v]? = some (.cells (vcells g j m st.gen st.next) 83 (0, 0)) ∧ IsJ w B g s r j q J ∧ JouOk J st ∧ ValsAt w B m st.x ∧ F = FootV v m g s j r q
theorem IsF.isV {w : World} {B v g s : Nat} {F : Nat → Prop} {st : Vt} (h : IsF w B v g s F st) : IsV w B v g s st := by
  obtain ⟨ho, r, j, q, m, J, h1, h2, h3, h4, h5, _⟩ := h
  exact ⟨ho, r, j, q, m, J, h1, h2, h3, h4, h5⟩
theorem IsF.ok {w : World} {B v g s : Nat} {F : Nat → Prop} {st : Vt} (h : IsF w B v g s F st) : st.Ok := h.1
theorem IsF.read {w : World} {B v g s : Nat} {F : Nat → Prop} {st : Vt} (h : IsF w B v g s F st) : ReadV w B v st.gen st.x := h.isV.read
theorem IsF.size {w : World} {B v g s : Nat} {F : Nat → Prop} {st : Vt} (h : IsF w B v g s F st) : B ≤ w.heap.size := h.isV.size
theorem IsF.below {w w' : World} {B v g s : Nat} {F : Nat → Prop} {st : Vt} (h : IsF w B v g s F st) (hb : Below w.heap.size w w') : IsF w' B v g s F st := by
  obtain ⟨ho, r, j, q, m, J, h1, h2, h3, h4, h5, h6⟩ := h
  exact ⟨ho, r, j, q, m, J, h1, by rw [hb.block v (Array.getElem?_eq_some_iff.1 h2).1]; exact h2, h3.below hb, h4, h5.below hb, h6⟩
/-- what its blocks are -/
theorem IsF.kinds {w : World} {B v g s : Nat} {F : Nat → Prop} {st : Vt} (h : IsF w B v g s F st) {k : Nat} (hk : F k) : B ≤ k ∧ k < w.heap.size ∧ ((∃ cs T, w.heap[k]? = some (.cells cs T (0, 0)) ∧ TouchT T) ∨ ∃ es c, w.heap[k]? = some (.map es c)) := by
  obtain ⟨ho, r, j, q, m, J, h1, h2, h3, h4, h5, rfl⟩ := h
  rcases hk with rfl | rfl | hk
  · exact ⟨h1, (Array.getElem?_eq_some_iff.1 h2).1, .inl ⟨_, _, h2, .inr (.inr (.inr (.inr (.inr rfl))))⟩⟩
  · have hl := h5.lt
    obtain ⟨_, f, hm, _⟩ := h5
    exact ⟨hl.1, hl.2, .inr (map_lt hm)⟩
  · have hl := h3.lt k hk
    refine ⟨hl.1, hl.2, .inl ?_⟩
    obtain ⟨_, hd, _, _, _, _, _, _, _, _, A, c, hh, hown, hq⟩ := h3
    obtain ⟨h1, h2, h3, h4, h5, h6, h7, A', c', h8, h9, h10⟩ := hd
    rcases hk with e | e | e | e | e
    · subst e; exact ⟨_, _, h8, .inl rfl⟩
    · subst e; exact ⟨_, _, h7, .inr (.inl rfl)⟩
    · subst e; exact ⟨_, _, hh, .inr (.inr (.inr (.inl rfl)))⟩
    · rw [← h10] at e
      obtain ⟨cs, hb⟩ := row_block h9 e
      exact ⟨_, _, hb, .inr (.inr (.inl rfl))⟩
    · rw [← hq] at e
      obtain ⟨cs, hb⟩ := row_block hown e
      exact ⟨_, _, hb, .inr (.inr (.inr (.inr (.inl rfl))))⟩
/-- what turns nothing of it, and no bytes -/
theorem IsF.turned {w w' : World} {B v g s : Nat} {F p : Nat → Prop} {st : Vt} (h : IsF w B v g s F st) (ht : Turned p w w') (hp : ∀ k, F k → ¬ p k) (hb : ∀ k cs fr, p k → w.heap[k]? ≠ some (.cells cs 5 fr)) : IsF w' B v g s F st := by
  obtain ⟨ho, r, j, q, m, J, h1, h2, h3, h4, h5, rfl⟩ := h
  refine ⟨ho, r, j, q, m, J, h1, ht.heap h2 (hp v (.inl rfl)), h3.turned ht fun k hk => hp k (.inr (.inr hk)), h4, ?_, rfl⟩
  obtain ⟨hB, f, hm, hr⟩ := h5
  exact ⟨hB, f, map_turned hm ht (hp m (.inr (.inl rfl))), fun q hq => ht.own (hr q hq) fun k hk hpk => by
    obtain ⟨cs, hb'⟩ := row_block (hr q hq) hk
    exact hb k cs _ hpk hb'⟩
theorem IsF.noBytes {w : World} {B v g s : Nat} {F : Nat → Prop} {st : Vt} (h : IsF w B v g s F st) : ∀ k cs fr, F k → w.heap[k]? ≠ some (.cells cs 5 fr) := fun k cs fr hk e => by
  obtain ⟨_, _, ⟨cs', T, hb, hT⟩ | ⟨es, c, hb⟩⟩ := h.kinds hk
  · rw [hb] at e
    injection e with e
    injection e with _ e _
    subst e
    exact absurd hT (by unfold TouchT; decide)
  · rw [hb] at e; cases e
/-- the vault stands, in blocks that were its own or are new -/
def NewF (w : World) (B v g s : Nat) (F : Nat → Prop) (st : Vt) (w' : World) : Prop := ∃ F', IsF w' B v g s F' st ∧ ∀ k, F' k → F k ∨ w.heap.size ≤ k
theorem NewF.same {w w' : World} {B v g s : Nat} {F : Nat → Prop} {st : Vt} (h : IsF w' B v g s F st) : NewF w B v g s F st w' := ⟨F, h, fun _ e => .inl e⟩
theorem NewF.from {w w0 w' : World} {B v g s : Nat} {F : Nat → Prop} {st : Vt} (h : NewF w B v g s F st w') (hs : w0.heap.size ≤ w.heap.size) : NewF w0 B v g s F st w' := by
  obtain ⟨F', h1, h2⟩ := h
  exact ⟨F', h1, fun k hk => (h2 k hk).imp id fun e => Nat.le_trans hs e⟩
theorem NewF.join {w w0 w' : World} {B v g s : Nat} {F0 F : Nat → Prop} {st : Vt} (hg : ∀ k, F k → F0 k ∨ w0.heap.size ≤ k) (hs : w0.heap.size ≤ w.heap.size) (h : NewF w B v g s F st w') : NewF w0 B v g s F0 st w' := by
  obtain ⟨F', h1, h2⟩ := h
  exact ⟨F', h1, fun k hk => (h2 k hk).elim (hg k) fun e => .inr (Nat.le_trans hs e)⟩
theorem turned_step {p q : Nat → Prop} {a b c : World} (h : Turned p a b) (k : Turned q b c) (hq : ∀ k, k < a.heap.size → q k → p k) : Turned p a c := h.trans k (fun _ e => e) hq
/-- what is one's own, or new -/
def Pf (F : Nat → Prop) (n0 : Nat) (k : Nat) : Prop := F k ∨ n0 ≤ k
theorem Pf.turned {F : Nat → Prop} {w w' : World} (h : Turned (Pf F w.heap.size) w w') : Turned F w w' := h.mono fun k hk e => e.elim id fun e => by omega
/-- a journal that moved: its blocks -/
theorem foot_moved {w : World} {F : Nat → Prop} {v m g s j : Nat} {r q r' q' : Option Nat} {n0 : Nat} (hF : ∀ k, FootJ g s r j q k → Pf F n0 k) (hn : n0 ≤ w.heap.size) (hr : ∀ k, r' = some k → r = some k ∨ w.heap.size ≤ k) (hq : ∀ k, q' = some k → q = some k ∨ w.heap.size ≤ k) : ∀ k, FootJ g s r' j q' k → Pf F n0 k := by
  rintro k (e | e | e | e | e)
  · exact hF k (.inl e)
  · exact hF k (.inr (.inl e))
  · exact hF k (.inr (.inr (.inl e)))
  · rcases hr k e with e | e
    · exact hF k (.inr (.inr (.inr (.inl e))))
    · exact .inr (Nat.le_trans hn e)
  · rcases hq k e with e | e
    · exact hF k (.inr (.inr (.inr (.inr e))))
    · exact .inr (Nat.le_trans hn e)
/-- a vault that was opened over a device: its blocks -/
def OpenedF (w : World) (B v m g s : Nat) (r : Option Nat) (st : Vt) (w' : World) : Prop :=
  ∃ r' j q, IsF w' B v g s (FootV v m g s j r' q) st ∧ (∀ k, r' = some k → r = some k ∨ w.heap.size ≤ k) ∧ w.heap.size ≤ j ∧ ∀ k, q = some k → w.heap.size ≤ k
end Go.Proofs.YtdlgihgdpdiglaaGreat
end
