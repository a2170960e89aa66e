/-
  Contracts of quarter, otherPlace, changesFrom, and of wipe over any device whose power is on. Conditions: a device; what each names.
  A journal that is newer than a world (NewJ), and contracts of layDown and openJournal over a device without a fuse. Conditions: texts that have room; what each names.
-/
import Derived.Test.YtjekcaoonaniaaaGreatVauOf
import Derived.Test.YtjekcaoonaniaaaGreatJouOpenG
import Derived.Test.YtjekcaoonaniaaaGreatJouAdd
import Derived.Test.YtjekcaoonaniaaaGreatJouFlush
import Derived.Test.YtjekcaoonaniaaaGreatJouPart
namespace Go.Proofs.YtjekcaoonaniaaaGreat
open Go.ChangeShapes Go.WideShapes Go.ChangeAt Go.RowKit Go.Maps
set_option linter.unusedVariables false

theorem quarter_any (B g s : Nat) (r : Option Nat) (d : Dv) (w : World) (h : IsD w B g s r d) :
    Calls Tryz.prog 20 #[.pointer (some ⟨g, 0, none⟩)] w fun e w' => e = .returned (.int .i64 ((d.n / 4 : Nat) : Int)) ∧ w = w' := by
  have H := Lib.hid h
  have hn := h.1.n
  have Hq := Lib.hid (show (d.n : Int) / 4 = ((d.n / 4 : Nat) : Int) by omega)
  clear h
  go_enter Tryz.func20, Tryz.ntmps20
  go_wp2_with (go_at_call 19; refine (Len_any B g s r d w H.out).mono ?_; rintro e w1 ⟨rfl, rfl⟩)
  go_ret
  exact ⟨by rw [← Hq.out]; rfl, rfl⟩
theorem otherPlace_any (B g s : Nat) (r : Option Nat) (d : Dv) (p : Nat) (w : World) (h : IsD w B g s r d) (hp : p ≤ d.n / 4) :
    Calls Tryz.prog 22 #[.pointer (some ⟨g, 0, none⟩), .int .i64 (p : Int)] w fun e w' => e = .returned (.int .i64 ((d.n / 4 - p : Nat) : Int)) ∧ w = w' := by
  have H := Lib.hid h
  have hn := h.1.n
  obtain ⟨q, hq⟩ : ∃ q, d.n / 4 = q := ⟨_, rfl⟩
  rw [hq] at hp
  have hqn : q ≤ 1024 := by omega
  have Hq := Lib.hid hq
  clear h hq
  have Hsub := Lib.hid (show (q : Int) - (p : Int) = ((q - p : Nat) : Int) by omega)
  go_enter Tryz.func22, Tryz.ntmps22
  go_wp2_with (go_at_call 20; refine (quarter_any B g s r d w H.out).mono ?_; rw [Hq.out]; rintro e w1 ⟨rfl, rfl⟩)
  go_ret
  exact ⟨by rw [Hq.out, ← Hsub.out]; rfl, rfl⟩
theorem changesFrom_any (B g s : Nat) (r : Option Nat) (d : Dv) (w : World) (h : IsD w B g s r d) :
    Calls Tryz.prog 36 #[.pointer (some ⟨g, 0, none⟩)] w fun e w' => e = .returned (.int .i64 ((2 * (d.n / 4) : Nat) : Int)) ∧ w = w' := by
  have H := Lib.hid h
  have hn := h.1.n
  obtain ⟨q, hq⟩ : ∃ q, d.n / 4 = q := ⟨_, rfl⟩
  have hqn : q ≤ 1024 := by omega
  have Hq := Lib.hid hq
  clear h hq
  have Hmul := Lib.hid (show 2 * (q : Int) = ((2 * q : Nat) : Int) by omega)
  go_enter Tryz.func36, Tryz.ntmps36
  go_wp2_with (go_at_call 20; refine (quarter_any B g s r d w H.out).mono ?_; rw [Hq.out]; rintro e w1 ⟨rfl, rfl⟩)
  go_ret
  exact ⟨by rw [Hq.out, ← Hmul.out]; rfl, rfl⟩

set_option maxRecDepth 100000 in
set_option maxHeartbeats 4000000 in
theorem vwipe_any (B g s : Nat) (r : Option Nat) (d : Dv) (a b : Nat) (w : World) (h : IsD w B g s r d) (hL : d.L.length ≤ 800000) (hd : d.down = false) (hab : a ≤ b) (hb : b ≤ d.n) :
    Calls Tryz.prog 39 #[.pointer (some ⟨g, 0, none⟩), .int .i64 (a : Int), .int .i64 (b : Int)] w fun e w' => e = .returned (.int .i64 ((d.wiped a (b - a) false).1 : Int)) ∧ MovedD B g s r (d.wiped a (b - a) false).2 w w' := by
  have H := Lib.hid h; clear h
  have hn := H.out.1.n
  have Hd := Lib.hid hd
  clear hd
  have hlt := H.out.lt
  have Hlt := Lib.hid hlt; clear hlt
  obtain ⟨i0, hi, hz0, hz1, hz2⟩ := info_parts u8_info
  go_enter Tryz.func39, Tryz.ntmps39
  go_wp2_with (at_make; go_loud (refine wpList_make_full _ rfl (.const (.int .i64 64)) (.const (.int .i64 64)) _ rfl w.heap.size 5 i0 (.int .u8 0) 1 Tryz.underlying31 hi hz0 hz1 .i64 .i64 _ _ 64 rfl rfl (by omega) (by omega) (by rw [hz2]; omega) (by unfold maxLen; omega) (Nat.le_refl _) ?_; intro w1 hown hgr; rw [made_u8] at hown; have Hs1 := Lib.hid (show Seen w1 (some ⟨w.heap.size, 0, none⟩) (bytesV zeros64) from Seen.of_own hown); have Hown1 := Lib.hid hown; have Hb1 := Lib.hid ((Below.refl w.heap.size w).grown hgr (Nat.le_refl _) (fun k e => by cases e)); clear hown hgr))
  have Hd1 := Lib.hid (H.out.below Hb1.out)
  have hz1lt : w.heap.size < w1.heap.size := (Hown1.out.lt w.heap.size rfl).2
  clear Hown1
  go_loopw [8, 9] (fun bv iv wr => ∃ (k : Nat) (d' : Dv) (wrb : Bool), a ≤ k ∧ k ≤ b ∧ bv = .bool wrb ∧ iv = .int .i64 (k : Int) ∧ d.wiped a (b - a) false = d'.wiped k (b - k) wrb ∧ MovedD B g s r d' w1 wr ∧ d'.down = false ∧ d'.n = d.n ∧ d'.L.length ≤ d.L.length + (k - a)) (fun _ iv _ => b - (intOf iv).toNat)
  case atStart => exact ⟨a, d, false, Nat.le_refl _, hab, rfl, rfl, rfl, MovedD.refl Hd1.out, Hd.out, rfl, by omega⟩
  case round =>
    obtain ⟨k, d', wrb, hak, hkb, rfl, rfl, hp, hmv, hdn', hn', hL'⟩ := hrel
    obtain ⟨r1, hd1, hr1, ht1⟩ := hmv
    have Hp := Lib.hid hp; have Hdr := Lib.hid hd1; have Hr1 := Lib.hid hr1; have Ht1 := Lib.hid ht1; have Hdn := Lib.hid hdn'
    have Hfin := Lib.hid (show ∀ w6 d2, MovedD B g s r1 d2 wr w6 → MovedD B g s r d2 w w6 from fun w6 d2 hm => by
      refine MovedD.step (d := d2) (fun k e => .inl e) (Turned.of_below Hb1.out) ?_
      exact MovedD.step (d := d2) Hr1.out Ht1.out hm)
    have Hloop := Lib.hid (show ∀ w6 d2, MovedD B g s r1 d2 wr w6 → MovedD B g s r d2 w1 w6 from fun w6 d2 hm => MovedD.step (d := d2) Hr1.out Ht1.out hm)
    have Hs2 := Lib.hid (show Seen wr (some ⟨w.heap.size, 0, none⟩) (bytesV zeros64) from Ht1.out.seen Hs1.out (fun g' o e => by
      injection e with e; injection e with e1 _
      subst e1
      have := Hlt.out
      rintro (e | e | e)
      · omega
      · omega
      · have := (Hlt.out.2.2.2.2 _ e).2; omega))
    clear hp hd1 hr1 ht1 hdn'
    by_cases hk : k < b
    · have hrd := Read_any B g s r1 d' k wr Hdr.out (by omega) Hdn.out (by omega)
      have hnl : (newest d'.L d'.S k).length = 64 := newest_length Hdr.out.1.S Hdr.out.1.L (by omega)
      have hstep : b - k = (b - (k + 1)) + 1 := by omega
      have Hstep := Lib.hid hstep
      obtain ⟨cn, hcn⟩ : ∃ cn, newest d'.L d'.S k = cn := ⟨_, rfl⟩
      rw [hcn] at hrd hnl
      have Hcn := Lib.hid hcn
      have Hrd := Lib.hid hrd; have Hnl := Lib.hid hnl
      have Hzl := Lib.hid (show zeros64.length = 64 from List.length_replicate)
      clear hrd hnl hstep hcn
      go_wp2_with (first
        | (go_at_call 31; refine Hrd.out.mono ?_; rintro e w3 ⟨pb, rfl, hpb, hblk, hb3⟩; have Hblk := Lib.hid (Blk.seen hblk); have Hb3 := Lib.hid hb3; have Hs3 := Lib.hid (Hs2.out.below hb3); clear hblk hb3))
      refine (BytesEqual_any (some ⟨pb, 0, none⟩) (some ⟨w.heap.size, 0, none⟩) 64 64 64 64 cn zeros64 w3 Hnl.out Hzl.out Hblk.out Hs3.out).mono ?_
      rintro e w4 ⟨rfl, rfl⟩
      by_cases hz : cn = zeros64
      · rw [decide_eq_true hz]
        have hw : d'.wiped k (b - k) wrb = d'.wiped (k + 1) (b - (k + 1)) wrb := by rw [Hstep.out, Dv.wiped, if_pos (by rw [Hcn.out]; exact hz)]
        have Hw := Lib.hid hw
        clear hz hw
        go_wp2
        go_roundw
        case rel => exact ⟨k + 1, d', wrb, by omega, by omega, rfl, by go_num, Hp.out.trans Hw.out, Hloop.out w3 d' (MovedD.step (d := d') (fun k e => .inl e) (Turned.of_below Hb3.out) (MovedD.refl (Hdr.out.below Hb3.out))), Hdn.out, hn', by omega⟩
        case measure => simp [intOf]; omega
      · rw [decide_eq_false hz]
        have hw16 := writeE_ways d' (i := k) (bs := zeros64) (by omega) Hzl.out
        have hwr := Write_any B g s r1 d' (k : Int) (some ⟨w.heap.size, 0, none⟩) 64 64 zeros64 w3 (Hdr.out.below Hb3.out) (by omega) (by omega) (by omega) Hzl.out (by omega) (by have := Hb3.out.size; have := Hdr.out.lt; omega) Hs3.out (fun gb ob e => by
          injection e with e; injection e with e1 _
          subst e1
          have := Hlt.out
          refine ⟨by omega, by omega, fun e => ?_⟩
          rcases Hr1.out _ e with e | e
          · have := (Hlt.out.2.2.2.2 _ e).2; omega
          · omega)
        have Hwr := Lib.hid hwr
        have Hwn := Lib.hid (write_n d' (k : Int) zeros64)
        have HwL := Lib.hid (write_L d' (k : Int) zeros64)
        have Hmm := Lib.hid (show ∀ w6 d2, MovedD B g s r1 d2 w3 w6 → MovedD B g s r1 d2 wr w6 from fun w6 d2 hm => MovedD.step (d := d2) (fun k e => .inl e) (Turned.of_below Hb3.out) hm)
        have Hz := Lib.hid (show ¬ newest d'.L d'.S k = zeros64 by rw [Hcn.out]; exact hz)
        clear hwr hz
        rcases hw16 with hw0 | hw0
        · have hw : d'.wiped k (b - k) wrb = (d'.write k zeros64).wiped (k + 1) (b - (k + 1)) true := by rw [Hstep.out, Dv.wiped, if_neg Hz.out, if_pos hw0]
          have Hw := Lib.hid hw; have Hw0 := Lib.hid hw0
          clear hw hw0
          go_wp2_with (go_at_call 61; refine Hwr.out.mono ?_; rw [Hw0.out]; rintro e w6 ⟨rfl, hmv⟩; have Hm6 := Lib.hid (Hloop.out w6 _ (Hmm.out w6 _ hmv)); clear hmv)
          go_roundw
          case rel => exact ⟨k + 1, d'.write k zeros64, true, by omega, by omega, rfl, by go_num, Hp.out.trans Hw.out, Hm6.out, writeE_zero Hw0.out, by rw [Hwn.out]; exact hn', by have := HwL.out; omega⟩
          case measure => simp [intOf]; omega
        · have hw : d'.wiped k (b - k) wrb = (16, d'.write k zeros64) := by rw [Hstep.out, Dv.wiped, if_neg Hz.out, if_neg (by rw [hw0]; simp), hw0]
          have Hw := Lib.hid (Hp.out.trans hw); have Hw0 := Lib.hid hw0
          clear hw hw0
          go_wp2_with (go_at_call 61; refine Hwr.out.mono ?_; rw [Hw0.out]; rintro e w6 ⟨rfl, hmv⟩; have Hm6 := Lib.hid (Hfin.out w6 _ (Hmm.out w6 _ hmv)); clear hmv)
          go_ret
          rw [Hw.out]
          exact ⟨rfl, Hm6.out⟩
    · obtain rfl : k = b := by omega
      have hwb : d'.wiped k (k - k) wrb = if wrb = true then (d'.flushE, d'.flush) else (0, d') := by rw [Nat.sub_self, Dv.wiped]
      cases wrb with
      | false =>
        have Hw := Lib.hid (Hp.out.trans (hwb.trans (if_neg (by simp))))
        clear hwb
        go_wp2
        go_ret
        rw [Hw.out]
        exact ⟨rfl, Hfin.out wr d' (MovedD.refl Hdr.out)⟩
      | true =>
        have Hw := Lib.hid (Hp.out.trans (hwb.trans (if_pos rfl)))
        have Hfl := Lib.hid (Flush_any B g s r1 d' wr Hdr.out (by omega))
        clear hwb
        go_wp2_with (go_at_call 62; refine Hfl.out.mono ?_; rintro e w6 ⟨rfl, hmv⟩; have Hm6 := Lib.hid (Hfin.out w6 _ hmv); clear hmv)
        go_ret
        rw [Hw.out]
        exact ⟨rfl, Hm6.out⟩
end Go.Proofs.YtjekcaoonaniaaaGreat

namespace Go.Proofs.YtjekcaoonaniaaaGreat
open Go.ChangeShapes Go.WideShapes Go.ChangeAt Go.RowKit Go.Maps
set_option linter.unusedVariables false

/-- the blocks of a device -/
def FootD (g s : Nat) (r : Option Nat) (k : Nat) : Prop := k = g ∨ k = s ∨ r = some k
/-- a journal at j, made since the world w; of what was there only the device may have turned -/
def NewJ (w : World) (B g s : Nat) (r : Option Nat) (j : Nat) (J : Jn) (wr : World) : Prop :=
  ∃ r1 q1, IsJ wr B g s r1 j q1 J ∧ (∀ k, r1 = some k → r = some k ∨ w.heap.size ≤ k) ∧ (∀ k, q1 = some k → w.heap.size ≤ k) ∧ w.heap.size ≤ j ∧ Turned (FootD g s r) w wr
theorem NewJ.moved {w wr w' : World} {B g s j : Nat} {r r1 q1 : Option Nat} {J' : Jn} (h2 : ∀ k, r1 = some k → r = some k ∨ w.heap.size ≤ k) (h3 : ∀ k, q1 = some k → w.heap.size ≤ k) (h4 : w.heap.size ≤ j) (h5 : Turned (FootD g s r) w wr) (k : MovedJ B g s r1 j q1 J' wr w') : NewJ w B g s r j J' w' := by
  obtain ⟨r2, q2, k1, k2, k3, k4⟩ := k
  refine ⟨r2, q2, k1, fun i hi => ?_, fun i hi => ?_, h4, h5.trans k4 (fun _ e => e) fun i hi e => ?_⟩
  · rcases k2 i hi with e | e
    · exact h2 i e
    · exact .inr (Nat.le_trans h5.size e)
  · rcases k3 i hi with e | e
    · exact h3 i e
    · exact Nat.le_trans h5.size e
  · rcases e with e | e | e | e | e
    · exact .inl e
    · exact .inr (.inl e)
    · omega
    · rcases h2 i e with e | e
      · exact .inr (.inr e)
      · omega
    · have := h3 i e; omega
theorem NewJ.below {w wr w' : World} {B g s j : Nat} {r : Option Nat} {J : Jn} (h : NewJ w B g s r j J wr) (hb : Below wr.heap.size wr w') : NewJ w B g s r j J w' := by
  obtain ⟨r1, q1, h1, h2, h3, h4, h5⟩ := h
  exact ⟨r1, q1, h1.below hb, h2, h3, h4, h5.trans (Turned.of_below (p := fun _ => False) hb) (fun _ e => e) (fun _ _ e => e.elim)⟩
theorem NewJ.dev {w wr : World} {B g s j : Nat} {r : Option Nat} {J : Jn} (h : NewJ w B g s r j J wr) : MovedD B g s r J.d w wr := by
  obtain ⟨r1, q1, h1, h2, h3, h4, h5⟩ := h
  exact ⟨r1, h1.dev, h2, h5⟩
theorem NewJ.lt {w wr : World} {B g s j : Nat} {r : Option Nat} {J : Jn} (h : NewJ w B g s r j J wr) : B ≤ wr.heap.size ∧ w.heap.size ≤ wr.heap.size := by
  obtain ⟨r1, q1, h1, _, _, _, h5⟩ := h
  have := h1.lt j (.inr (.inr (.inl rfl)))
  exact ⟨by omega, h5.size⟩
/-- behind what moved the device -/
theorem NewJ.after {w w1 wr : World} {B g s j : Nat} {r r1 : Option Nat} {J : Jn} (h2 : ∀ k, r1 = some k → r = some k ∨ w.heap.size ≤ k) (h3 : Turned (FootD g s r) w w1) (h : NewJ w1 B g s r1 j J wr) : NewJ w B g s r j J wr := by
  obtain ⟨r2, q2, k1, k2, k3, k4, k5⟩ := h
  refine ⟨r2, q2, k1, fun i hi => ?_, fun i hi => Nat.le_trans h3.size (k3 i hi), Nat.le_trans h3.size k4, Turned.trans h3 k5 (fun _ e => e) fun i hi e => ?_⟩
  · rcases k2 i hi with e | e
    · exact h2 i e
    · exact .inr (Nat.le_trans h3.size e)
  · rcases e with e | e | e
    · exact .inl e
    · exact .inr (.inl e)
    · rcases h2 i e with e | e
      · exact .inr (.inr e)
      · omega

/-- Open of a part in which these records stand -/
theorem JOpen_is (B g s : Nat) (r : Option Nat) (d : Dv) (n a m gen : Nat) (os : List (List UInt8)) (w : World) (h : IsD w B g s r d) (hu : d.Up) (hL : d.L = []) (hn : d.n = n) (ham : a + m ≤ n) (hg : gen ≤ 1099511627776) (hs : Scanned gen (d.part a m) os) :
    Calls Tryz.prog 64 #[.pointer (some ⟨g, 0, none⟩), .int .i64 (a : Int), .int .i64 (m : Int), .int .i64 (gen : Int)] w fun e w' => ∃ j A k c J, e = .returned (.tuple #[.pointer (some ⟨j, 0, none⟩), .slice A k c, .int .i64 0]) ∧
      NewJ w B g s r j J w' ∧ RunP J n a m gen d.view os [] ∧ J.d.L = [] := by
  refine (JOpen_any B g s r d a m gen w h (by rw [hL]; simp) hu.2 (by rw [hn]; exact ham) hg).mono ?_
  rintro e w' ⟨ts, hts, hle, hway⟩
  obtain rfl : ts = os := hts.one hs
  obtain ⟨d', h1, h2, h3⟩ := RunP.opened hu h.1 hn ham hg hs
  rw [h1] at hway
  rcases hway with ⟨hx, _⟩ | ⟨_, j, A, k, c, r', rfl, hj, hJ, hr, ht, htx⟩
  · exact absurd rfl hx
  · refine ⟨j, A, k, c, _, rfl, ⟨r', none, hJ, hr, (fun k e => by cases e), hj, ht⟩, h2, ?_⟩
    rcases h3 with e | e
    · exact e
    · show d'.L = []
      rw [e]; exact hL

/-- a part of zeros is shown as zeros -/
theorem part_zeros {d : Dv} {V : List UInt8} {n a m : Nat} (hv : d.view = put V (64 * a) (List.replicate (64 * m) 0)) (hV : V.length = n * 64) (ham : a + m ≤ n) : d.part a m = List.replicate (64 * m) 0 := by
  have h1 : (V.take (64 * a)).length = 64 * a := by rw [List.length_take, hV]; omega
  unfold Dv.part
  rw [hv]
  unfold put
  rw [List.append_assoc, List.drop_left' h1, List.take_left' (by simp)]
theorem laid_put {V x : List UInt8} {n a m : Nat} (hV : V.length = n * 64) (ham : a + m ≤ n) : laidAt (put V (64 * a) (List.replicate (64 * m) 0)) a m x = laidAt V a m x := by
  have h1 : (V.take (64 * a)).length = 64 * a := by rw [List.length_take, hV]; omega
  unfold laidAt put
  congr 1
  · rw [List.append_assoc, List.take_left' h1]
  · congr 1
    rw [List.length_replicate, show 64 * (a + m) = 64 * a + 64 * m by omega]
    rw [List.drop_left' (by rw [List.length_append, h1, List.length_replicate])]

set_option maxRecDepth 100000 in
set_option maxHeartbeats 2000000 in
theorem layDown_any (B g s : Nat) (r : Option Nat) (d : Dv) (n q p gen : Nat) (ts : List (List UInt8)) (A : Option Addr) (k c : Nat) (w : World) (h : IsD w B g s r d) (hu : d.Up) (hL : d.L = []) (hn : d.n = n) (hq : n / 4 = q) (hp : p + q ≤ n) (hg : gen ≤ 1099511627776)
    (hk : ts.length = k) (hsm : ∀ t ∈ ts, t.length ≤ 930) (hroom : secsUp gen 0 ts ≤ q) (hts : ∀ w', Turned (FootD g s r) w w' → TextsSeen w' A ts) :
    Calls Tryz.prog 72 #[.pointer (some ⟨g, 0, none⟩), .int .i64 (p : Int), .int .i64 (gen : Int), .slice A k c] w fun e w' => e = .returned (.int .i64 0) ∧
      ∃ d', MovedD B g s r d' w w' ∧ d'.Up ∧ d'.n = n ∧ d'.L = [] ∧ d'.view = laidAt d.view p q (formsX 1 gen 0 ts ++ List.replicate (64 * (q - secsUp gen 0 ts)) 0) := by
  have H := Lib.hid h
  have hn4 := h.1.n
  have hVl := view_length h.1
  subst hn
  have Hts := Lib.hid hts; have Hsm := Lib.hid hsm; have Hroom := Lib.hid hroom; have Hk := Lib.hid hk; have Hq := Lib.hid hq
  have hkq : k ≤ q := by have := secsUp_ge gen 0 ts; omega
  have hqn : q ≤ 1024 := by omega
  obtain ⟨d1, w1, w2, w3, w4, w5, w6⟩ := up_wiped q d p false hu h.1 (by omega)
  have hL1 : d1.L = [] := by
    rcases w6 with e | e
    · exact e
    · rw [e]; exact hL
  have Hwipe := Lib.hid (vwipe_any B g s r d p (p + q) w h (by rw [hL]; simp) hu.2 (by omega) (by omega))
  rw [show p + q - p = q by omega, w1] at Hwipe
  have HL1 := Lib.hid hL1; have W2 := Lib.hid w2; have W4 := Lib.hid w4; have W5 := Lib.hid w5
  have Hadd := Lib.hid (show (p : Int) + (q : Int) = ((p + q : Nat) : Int) by omega)
  clear h hu hts hsm hroom hk hq w1 w2 w3 w4 w5 w6 hL1 hL
  have hpq : p + q ≤ 4096 := by omega
  go_enter Tryz.func72, Tryz.ntmps72
  go_wp2_with fail
  refine (quarter_any B g s r d w H.out).mono ?_
  rw [Hq.out]
  rintro e w0 ⟨rfl, rfl⟩
  go_wp2_with fail
  rw [Hadd.out]
  refine Hwipe.out.mono ?_
  rintro e w1 ⟨rfl, hm1⟩
  obtain ⟨r1, hd1, hr1, ht1⟩ := hm1
  have Hd1 := Lib.hid hd1; have Hr1 := Lib.hid hr1; have Ht1 := Lib.hid ht1
  clear hd1 hr1 ht1
  go_wp2_with fail
  refine (quarter_any B g s r1 d1 w1 Hd1.out).mono ?_
  rw [W4.out, Hq.out]
  rintro e w2 ⟨rfl, rfl⟩
  have hpz := part_zeros W5.out hVl hp
  have hopen := JOpen_is B g s r1 d1 d.n p q gen [] w1 Hd1.out W2.out HL1.out W4.out hp hg (by rw [hpz]; exact scanned_zeros _ _)
  have Hopen := Lib.hid hopen
  clear hpz hopen
  go_wp2_with fail
  refine Hopen.out.mono ?_
  rintro e w2 ⟨j, A1, k1, c1, J, rfl, hnj, hrp, hJL⟩
  have Hnj := Lib.hid (NewJ.after Hr1.out Ht1.out hnj)
  have Hrp := Lib.hid hrp; have HJL := Lib.hid hJL
  have Hlay := Lib.hid (show ∀ x, laidAt d1.view p q x = laidAt d.view p q x from fun x => by rw [W5.out]; exact laid_put hVl hp)
  clear hnj hrp hJL
  go_wp2
  go_loopw [41] (fun iv wr => ∃ (i : Nat) (J' : Jn), iv = .int .i64 (i : Int) ∧ i ≤ k ∧ NewJ w B g s r j J' wr ∧ RunP J' d.n p q gen d1.view [] (ts.take i) ∧ J'.d.L.length ≤ secsUp gen 0 (ts.take i)) (fun iv _ => k - (intOf iv).toNat)
  case atStart => exact ⟨0, J, rfl, Nat.zero_le _, Hnj.out, Hrp.out, by rw [HJL.out]; exact Nat.zero_le _⟩
  case round =>
    obtain ⟨i, J', rfl, hik, hnj', hrp', hL'⟩ := hrel
    have Hnj' := Lib.hid hnj'; have Hrp' := Lib.hid hrp'; have HL' := Lib.hid hL'
    clear hnj' hrp' hL'
    obtain ⟨r2, q2, hJ2, hr2, hq2, hj2, ht2⟩ := Hnj'.out
    have HJ2 := Lib.hid hJ2
    have Hmv := Lib.hid (fun J2 w' (hm : MovedJ B g s r2 j q2 J2 wr w') => NewJ.moved hr2 hq2 hj2 ht2 hm)
    have hBw := Hnj'.out.lt.1
    have Htx := Lib.hid (Hts.out wr ht2)
    clear hJ2 hr2 hq2 hj2 ht2
    by_cases hlt : i < k
    · obtain ⟨t, ht⟩ : ∃ t, ts[i]? = some t := ⟨ts[i]'(by have := Hk.out; omega), List.getElem?_eq_getElem _⟩
      have htl := Hsm.out t (List.mem_of_getElem? ht)
      obtain ⟨gt, ot, At, nt, ct, rfl, hcell, hnt, hnt6, hseen⟩ := Htx.out.at_ ht
      have Hst := Lib.hid (secsUp_take (gen := gen) ht)
      have htk : ts.take (i + 1) = ts.take i ++ [t] := by
        obtain ⟨hlt', e⟩ := List.getElem?_eq_some_iff.1 ht
        rw [List.take_succ_eq_append_getElem hlt', e]
      have Htk := Lib.hid htk
      have hlen : (ts.take i).length = i := by rw [List.length_take]; have := Hk.out; omega
      have hpre : secsUp gen 0 (ts.take (i + 1)) ≤ q := by
        have e : ts = ts.take (i + 1) ++ ts.drop (i + 1) := (List.take_append_drop _ _).symm
        have := Hroom.out
        rw [e, secsUp_append] at this
        omega
      obtain ⟨J2, ha1, ha2, ha3⟩ := Hrp'.out.add (t := t) (form_ok hg (by simp only [List.length_nil]; omega) htl) (by
        rw [List.nil_append, List.length_nil, Nat.zero_add, hlen]
        have := Hst.out
        omega)
      rw [← htk] at ha2
      rw [List.length_nil, Nat.zero_add, hlen] at ha3
      have Ha2 := Lib.hid ha2
      have hL2 : J2.d.L.length ≤ secsUp gen 0 (ts.take (i + 1)) := by rw [ha3, Hst.out]; have := HL'.out; omega
      have HL2 := Lib.hid hL2
      have hjk : J'.k < 1000000 := by rw [Hrp'.out.jk, hlen]; simp; omega
      have hjl : J'.L.length < 100000 := by rw [Hrp'.out.jL, firsts_length, hlen]; omega
      have hdl : J'.d.L.length ≤ 900000 := by have := HL'.out; rw [Hst.out] at hpre; omega
      have hcall := Add_any B g s r2 j q2 J' At nt ct t wr HJ2.out hdl hjk hjl hBw hnt hseen
      rw [ha1] at hcall
      have Hc2 := Lib.hid hcall
      clear htk hlen hpre ha1 ha2 ha3 hL2 hjk hjl hdl hcall hseen hnt ht
      go_wp2_with fail
      refine Hc2.out.mono ?_
      rintro e w6 ⟨rfl, hm6⟩
      have Hn6 := Lib.hid (Hmv.out J2 w6 hm6)
      clear hm6 hcell
      go_wp2
      go_roundw
      case rel => exact ⟨i + 1, J2, by go_num, by omega, Hn6.out, Ha2.out, HL2.out⟩
      case measure => simp [intOf]; omega
    · obtain rfl : i = k := by omega
      obtain ⟨J2, f1, f2, f3⟩ := Hrp'.out.flush
      have hdl : J'.d.L.length ≤ 800000 := by
        have := HL'.out
        rw [List.take_of_length_le (by rw [Hk.out]; exact Nat.le_refl _)] at this
        have := Hroom.out
        omega
      have hcall := JFlush_any B g s r2 j q2 J' wr HJ2.out hdl hBw
      rw [f1] at hcall
      have Hc2 := Lib.hid hcall
      have F2 := Lib.hid f2; have F3 := Lib.hid f3
      clear hcall f1 f2 f3 hdl
      go_wp2_with fail
      refine Hc2.out.mono ?_
      rintro e w6 ⟨rfl, hm6⟩
      have Hn6 := Lib.hid (Hmv.out J2 w6 hm6)
      clear hm6
      go_wp2
      go_ret
      refine ⟨rfl, J2.d, Hn6.out.dev, F2.out.up, F2.out.dn, F3.out, ?_⟩
      rw [F2.out.view, Hlay.out, List.nil_append, List.append_nil, List.take_of_length_le (by rw [Hk.out]; exact Nat.le_refl _)]
      simp [formsX]
end Go.Proofs.YtjekcaoonaniaaaGreat
