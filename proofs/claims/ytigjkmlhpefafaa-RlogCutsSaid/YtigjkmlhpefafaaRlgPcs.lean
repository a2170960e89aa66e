/-
  Contract of pieces of dotterellaw14: a log that is filled from a leader's stays a beginning of it. Conditions: two logs in memory, apart; bytes that can be read.
-/
import Derived.Test.YtigjkmlhpefafaaRlgAwk
namespace Go.Proofs.Ytigjkmlhpefafaa
open Go.ChangeShapes Go.WideShapes Go.ChangeAt Go.RowKit
set_option linter.unusedVariables false

/-- a beginning of L, matched with a piece of L, is a beginning of L -/
theorem piece_in {L : List Dat} {m p M k : Nat} (hp : p ≤ m) (hm : m ≤ L.length) (h : IsAgree ((L.take m).drop p) ((L.drop p).take M) k) (hk : k < ((L.drop p).take M).length) :
    ∃ m', m' ≤ L.length ∧ (L.take m).take (p + k) ++ ((L.drop p).take M).drop k = L.take m' := by
  have hx := h.lx
  have hkM : k < M ∧ k < L.length - p := by
    rw [List.length_take, List.length_drop] at hk
    omega
  rw [List.length_drop, List.length_take] at hx
  have hkm : k = m - p := by
    by_cases e : k = m - p
    · exact e
    · exfalso
      have hlt : p + k < m := by omega
      have hL : L[p + k]? = some L[p + k] := List.getElem?_eq_getElem (by omega)
      refine h.stop L[p + k] L[p + k] ?_ ?_ rfl
      · rw [List.getElem?_drop, List.getElem?_take, if_pos hlt]; exact hL
      · rw [List.getElem?_take, if_pos hkM.1, List.getElem?_drop]; exact hL
  have hpk : p + k = m := by omega
  have e1 : (L.take m).take (p + k) ++ ((L.drop p).take M).drop k = L.take (m + (M - k)) := by
    rw [hpk, List.take_take, Nat.min_self, List.drop_take, List.drop_drop, hpk, List.take_add]
  by_cases hc : m + (M - k) ≤ L.length
  · exact ⟨_, hc, e1⟩
  · exact ⟨L.length, Nat.le_refl _, by rw [e1, List.take_of_length_le (by omega), List.take_length]⟩
theorem termN_take {t : Int} {L : List Dat} {m p : Nat} (hp : p ≤ m) : termN t (L.take m) p = termN t L p := by
  match p, hp with
  | 0, _ => rfl
  | j + 1, hp => simp only [termN, List.getElem?_take, if_pos (show j < m by omega)]
/-- what pieces hands back -/
def PiecesRet (B gx : Nat) (qx : Option Nat) (L : List Dat) (w : World) (en : Ending) (w' : World) : Prop := en = .returned (.tuple #[]) ∧ ∃ m, m ≤ L.length ∧ GrewL B gx qx 0 0 (L.take m) w w'
set_option maxRecDepth 100000 in
set_option maxHeartbeats 2000000 in
theorem pieces_any (B gl gx n nb : Nat) (ql qx : Option Nat) (L : List Dat) (m0 : Nat) (A : Option Addr) (c : Nat) (bs : List UInt8) (w : World) (hl : LogD w B gl ql 0 0 L) (hx : LogD w B gx qx 0 0 (L.take m0)) (hm0 : m0 ≤ L.length) (hn : L.length = n) (hn2 : n ≤ 1000) (hbs : bs.length = nb) (hb2 : nb ≤ 1000)
    (hs : ∀ w', Turned (FootL gx qx) w w' → Seen w' A (bytesV bs)) (hap : ∀ i, FootL gl ql i → ¬ FootL gx qx i) (hBw : B ≤ w.heap.size) :
    Calls Try.prog 8 #[.pointer (some ⟨gl, 0, none⟩), .pointer (some ⟨gx, 0, none⟩), .slice A nb c] w (PiecesRet B gx qx L w) := by
  have KL := Last_D B gl n ql 0 0 L w hl hn (by omega) (by omega) (by omega)
  rw [Int.zero_add] at KL
  have KL := Lib.hid KL
  have Hl := Lib.hid hl; have Hx := Lib.hid hx; have Hn := Lib.hid hn; have Hbs := Lib.hid hbs; have Hs := Lib.hid hs; have Hap := Lib.hid hap; have Hm0 := Lib.hid hm0; have HBw := Lib.hid hBw
  clear hl hx hn hbs hs hap hm0 hBw
  go_enter Try.func8, Try.ntmps8
  go_wp2_with (go_at_call 9; refine KL.out.mono ?_; rintro en w1 ⟨rfl, b1⟩; have B1 := Lib.hid b1; clear b1)
  go_loopw [8] (fun iv wr => ∃ (i m : Nat), i ≤ nb ∧ iv = .int .i64 (i : Int) ∧ m ≤ n ∧ GrewL B gx qx 0 0 (L.take m) w wr) (fun iv _ => nb - (intOf iv).toNat)
  case atStart => exact ⟨0, m0, by omega, rfl, by rw [← Hn.out]; exact Hm0.out, GrewL.of_below Hx.out B1.out⟩
  case round =>
    obtain ⟨i, m, hi, rfl, hm, hg⟩ := hrel
    have Hg := Lib.hid hg
    clear hg
    have i0 : (0 : Int) ≤ (i : Int) := by omega
    by_cases hlt : i < nb
    · obtain ⟨qw, hxw, hqw, tw⟩ := Hg.out
      have hlw := Hl.out.turned tw Hap.out Hx.out.noBytes
      obtain ⟨gA, o, b, rfl, hb, -, hcell⟩ := (Hs.out wr tw).byteAt (j := i) (by have := Hbs.out; omega)
      obtain ⟨z, hz⟩ : ∃ z, b.toNat = z := ⟨_, rfl⟩
      have hzb : z < 256 := by rw [← hz]; exact b.toNat_lt
      rw [hz] at hcell
      obtain ⟨p, hp⟩ : ∃ p, z % (n + 1) = p := ⟨_, rfl⟩
      have hpn : p ≤ n := by rw [← hp]; have := Nat.mod_lt z (show 0 < n + 1 by omega); omega
      have hpe : (z : Int) % ((n : Int) + 1) = (p : Int) := by rw [← hp]; exact (Int.natCast_emod z (n + 1)).symm
      obtain ⟨M, hM⟩ : ∃ M, 1 + z / 50 = M := ⟨_, rfl⟩
      have hMe : 1 + (z : Int) / 50 = (M : Int) := by rw [← hM]; omega
      have i1 : (i : Int) < (nb : Int) := by omega
      have KT := Lib.hid (Term_D B gl p ql 0 0 (p : Int) L wr hlw (by omega) (by rw [Hn.out]; exact hpn) (by omega) (by omega) (by rw [Hn.out]; omega))
      have Hlw := Lib.hid hlw; have Hxw := Lib.hid hxw; have Hqw := Lib.hid hqw; have Tw := Lib.hid tw
      have z0 : (0 : Int) ≤ (z : Int) := by omega
      have hM1 : 1 ≤ M := by omega
      have hM2 : M ≤ 1000 := by omega
      clear hlw hxw hqw tw hb hz hp hM
      obtain ⟨t, ht⟩ : ∃ t, termN 0 L p = t := ⟨_, rfl⟩
      rw [ht] at KT
      have Ht := Lib.hid ht
      clear ht
      go_upto_region 6 with (go_at_call 17; refine KT.out.mono ?_; rintro en w2 ⟨rfl, b2⟩; have B2 := Lib.hid b2; clear b2)
      have hlw2 := Hlw.out.below B2.out
      have KF := Lib.hid (From_any B gl n p M ql 0 0 ((p : Int) + 1) L w2 hlw2 Hn.out (by omega) (by omega) hpn (by omega) (by omega) hM1 (by omega))
      have hcell2 := (B2.out.cell (p := ⟨gA, o + i, none⟩) (block_lt_of_cell hcell)).trans hcell
      clear hlw2
      go_wp2_with fail
      refine KF.out.mono ?_
      rintro en w3 ⟨A3, c3, Z, rfl, hown3, hok3, hz3, b3⟩
      obtain ⟨cnt, hcnt⟩ : ∃ cnt, min M (n - p) = cnt := ⟨_, rfl⟩
      rw [hcnt] at hown3 ⊢
      have hcb : cnt ≤ 1000 := by omega
      have hzl : Z.length = cnt := by
        have := hown3.1
        rw [entsV_length] at this
        omega
      have hcc := (own_capL hown3).1
      have bwr : Below wr.heap.size wr w3 := B2.out.trans (b3.mono B2.out.size)
      have hY : EntsAt w3 A3 Z := ⟨own_seen hown3, hok3⟩
      have hxl : (L.take m).length = m := by rw [List.length_take, Hn.out]; omega
      have hx3 := Hxw.out.below bwr
      have hBw3 : B ≤ w3.heap.size := by have := bwr.size; have := Tw.out.size; have := HBw.out; omega
      have hC : ∀ gC o, A3 = some ⟨gC, o, none⟩ → Z ≠ [] → ¬ FootL gx qw gC := fun gC o e _ hf => by
        have h1 := (Hxw.out.block hf).2
        have h2 := (hown3.lt gC (by rw [e]; rfl)).1
        have := B2.out.size
        omega
      by_cases hpm : p ≤ m
      · have ht : t = termN 0 (L.take m) p := by rw [termN_take hpm]; exact Ht.out.symm
        have KM := Lib.hid (Match_D B gx p m cnt qw 0 0 (p : Int) t (L.take m) Z A3 c3 w3 hx3 hxl (by omega) (by omega) (by omega) hpm (by omega) ht hY hzl (by omega) hcc hC hBw3)
        have Hz3 := Lib.hid hz3; have Bwr := Lib.hid bwr
        clear hown3 hok3 hz3 b3 hcnt hzl hcc bwr hY hxl hx3 hBw3 hC ht hcell hcell2 hpe hMe KT KF
        go_wp2_with fail
        refine KM.out.mono ?_
        rintro en w4 ⟨k, hk, h4⟩
        rw [Hz3.out] at hk h4
        have hm' : ∃ m', m' ≤ n ∧ (∃ f : Int, en = .returned (.tuple #[.int .i64 f, .bool true])) ∧ GrewL B gx qx 0 0 (L.take m') w w4 := by
          rcases h4 with ⟨-, e, h4⟩ | ⟨hkl, e, h4⟩
          · exact ⟨m, hm, ⟨_, e⟩, GrewL.step Hqw.out Tw.out (GrewL.step (fun k e => .inl e) (Turned.of_below Bwr.out) h4)⟩
          · obtain ⟨m', h1, h2⟩ := piece_in hpm (by rw [Hn.out]; exact hm) hk hkl
            rw [h2] at h4
            exact ⟨m', by rw [← Hn.out]; exact h1, ⟨_, e⟩, GrewL.step Hqw.out Tw.out (GrewL.step (fun k e => .inl e) (Turned.of_below Bwr.out) h4)⟩
        obtain ⟨m', hm1, ⟨f, rfl⟩, hg4⟩ := hm'
        have Hg4 := Lib.hid hg4
        clear hk h4 hg4
        go_wp2
        go_roundw
        case rel => exact ⟨i + 1, m', by omega, by go_num, hm1, Hg4.out⟩
        case measure => simp [intOf]; omega
      · have KM := Lib.hid (Match_noneD B gx m cnt qw 0 0 (p : Int) t (L.take m) A3 c3 w3 hx3 hxl (by omega) (by omega) (by omega))
        have Hg3 := Lib.hid (show GrewL B gx qx 0 0 (L.take m) w w3 from GrewL.step Hqw.out Tw.out (GrewL.of_below Hxw.out bwr))
        clear hown3 hok3 hz3 b3 hcnt hzl hcc bwr hY hxl hx3 hBw3 hC hcell hcell2 hpe hMe KT KF
        go_wp2_with fail
        refine KM.out.mono ?_
        rintro en w4 ⟨rfl, b4⟩
        have Hg4 := Lib.hid (show GrewL B gx qx 0 0 (L.take m) w w4 from Hg3.out.trans fun q1 h1 _ => GrewL.of_below h1 b4)
        clear b4
        go_wp2
        go_roundw
        case rel => exact ⟨i + 1, m, by omega, by go_num, hm, Hg4.out⟩
        case measure => simp [intOf]; omega
    · obtain rfl : i = nb := by omega
      go_wp2
      go_end0
      exact ⟨rfl, m, by rw [Hn.out]; exact hm, Hg.out⟩
end Go.Proofs.Ytigjkmlhpefafaa
