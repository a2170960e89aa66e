/-
  JournalRoom: each record takes just the sectors of its form; what has no room is refused, and changes nothing. For every input, without conditions.
-/
import Derived.Test.YtcplclnlcfhoeaaJouA
import Derived.Test.YtcplclnlcfhoeaaJouFlush
import Derived.Test.YtcplclnlcfhoeaaOpenTexts
import Derived.Test.YtcplclnlcfhoeaaLaw
import Derived.OwnWalk
namespace Go.Proofs.Ytcplclnlcfhoeaa.journalRoom
open Go.ChangeShapes Go.WideShapes Go.ChangeAt Go.RowKit Go.Proofs.Ytcplclnlcfhoeaa
set_option linter.unusedVariables false

theorem room_many {k m : Nat} (hk : k ≤ 100) (hm : m < 500) : manyOf 7 k (List.replicate m 0) ≤ 16 := by
  unfold manyOf secsOf
  rw [rest_length, fields_length, List.length_replicate, numB_one (by omega), numB_one (by omega)]
  have := numB_len (n := m) (k := 1) (by omega)
  omega
theorem part_all {d : Dv} {n : Nat} (h : d.Ok) (hn : d.n = n) : d.part 0 n = d.view := by
  unfold Dv.part
  rw [Nat.mul_zero, List.drop_zero, List.take_of_length_le (by rw [view_length h, hn]; omega)]
/-- where the loop stands -/
def RoomAt (B g s jg : Nat) (w : World) (k cnt : Nat) (wr : World) : Prop :=
  ∃ ts J r q, ts.length = cnt ∧ cnt ≤ k ∧ Run J 30 7 ts ∧ IsJ wr B g s r jg q J ∧ Below w.heap.size w wr

set_option maxRecDepth 100000 in
set_option maxHeartbeats 8000000 in
theorem walk (A : Option Addr) (n c : Nat) (us : List Nat) (w : World) (hn : us.length = n) (hnc : n ≤ c) (hcm : c ≤ maxLen) (hs : Seen w A (u16V us)) (hu : ∀ x ∈ us, x < 65536) :
    Calls Try.prog 5 #[.slice A n c] w fun e w' => e = .returned (.bool true) ∧ Below w.heap.size w w' := by
  have Hn := Lib.hid hn; have Hs := Lib.hid hs; have Hu := Lib.hid hu
  clear hn hs hu
  by_cases hl : 20 < n
  · have hli : (20 : Int) < (n : Int) := by omega
    go_enter Try.func5, Try.ntmps5
    go_wp2_with (go_at_call 6; refine (awake_any w).mono ?_; rintro e w1 ⟨rfl, hb⟩; have Hb := Lib.hid hb; clear hb)
    go_ret
    exact ⟨rfl, Hb.out⟩
  · have hli : ¬ (20 : Int) < (n : Int) := by omega
    obtain ⟨B, hB⟩ : ∃ B, w.heap.size = B := ⟨_, rfl⟩
    have HB := Lib.hid hB; clear hB
    go_enter Try.func5, Try.ntmps5
    go_wp2_with fail
    refine (New_any 30 w (by omega) (by omega)).mono ?_
    rw [HB.out]
    rintro e w1 ⟨g, s, rfl, hd, hb⟩
    have Hd1 := Lib.hid hd; have Hb1 := Lib.hid hb
    clear hd hb
    have hB1 : B ≤ w1.heap.size := by have := Hb1.out.size; have := HB.out; omega
    go_wp2_with fail
    refine (Open_new B g s 30 7 w1 Hd1.out (by omega)).mono ?_
    rintro e w2 ⟨jg, A2, c2, rfl, hj, hb⟩
    have Hj2 := Lib.hid hj
    have Hb2 := Lib.hid (show Below w.heap.size w w2 from by rw [HB.out]; exact Hb1.out.trans (hb.mono hB1))
    clear hj hb
    go_wp2
    go_loopw [7, 8] (fun cv iv wr => ∃ k cnt : Nat, k ≤ n ∧ cv = .int .i64 (cnt : Int) ∧ iv = .int .i64 (k : Int) ∧ RoomAt B g s jg w k cnt wr) (fun _ iv _ => n - (intOf iv).toNat)
    case atStart => exact ⟨0, 0, by omega, rfl, rfl, [], _, none, none, rfl, Nat.le_refl _, Run.new (by omega) (by omega), Hj2.out, Hb2.out⟩
    case round =>
      obtain ⟨k, cnt, hkn, rfl, rfl, ts, J, r, q, hts, hck, hrun, hj, hb⟩ := hrel
      have Hrun := Lib.hid hrun; have Hj := Lib.hid hj; have Hb := Lib.hid hb; have Hts := Lib.hid hts
      have hBr : B ≤ wr.heap.size := by have := hb.size; have := HB.out; omega
      have hnx := hrun.ok.next
      rw [hrun.fin] at hnx
      clear hrun hj hb hts
      by_cases hk : k < n
      · obtain ⟨x, hx⟩ : ∃ x, us[k]? = some x := ⟨_, List.getElem?_eq_getElem (by rw [Hn.out]; exact hk)⟩
        have hx6 := Hu.out x (List.mem_of_getElem? hx)
        obtain ⟨ga, oa, hA, hc0⟩ : ∃ ga oa, A = some ⟨ga, oa, none⟩ ∧ wr.cell? ⟨ga, oa + k, none⟩ = some (.int .u16 (x : Int)) := by
          rcases Hs.out.below Hb.out with e | ⟨ga, oa, e, hc⟩
          · have := congrArg List.length e
            rw [u16V, List.length_map, Hn.out] at this
            simp at this
            omega
          · exact ⟨ga, oa, e, hc k _ (by rw [u16V, List.getElem?_map, hx]; rfl)⟩
        subst hA
        obtain ⟨m, hm⟩ : ∃ m, x % 500 = m := ⟨_, rfl⟩
        have hm5 : m < 500 := by omega
        have hmi : (x : Int) % 500 = (m : Int) := by omega
        have hfE : formE (7 : Nat) (cnt : Int) (List.replicate m 0) = 0 := formE_mk (by omega) (by omega) (room_many (by omega) hm5)
        obtain ⟨y, hy⟩ : ∃ y, manyOf 7 cnt (List.replicate m 0) = y := ⟨_, rfl⟩
        have HfE := Lib.hid hfE; have Hy := Lib.hid hy
        obtain ⟨N, hN⟩ : ∃ N, 64 * y = N := ⟨_, rfl⟩
        have hdiv : (N : Int) / 64 = (y : Int) := by omega
        obtain ⟨R, hR⟩ : ∃ R, J.fin - J.next = R := ⟨_, rfl⟩
        have HR := Lib.hid hR; have HN := Lib.hid hN
        have HJf := Lib.hid Hrun.out.fin
        have hR2 : R = 30 - J.next := by rw [← hR, Hrun.out.fin]
        clear hx hm hfE hy hN hR
        obtain ⟨i0, hi, hz0, hz1, hz2⟩ := info_parts u8_info
        have b0 : (0 : Int) ≤ (k : Int) := by omega
        have b1 : (k : Int) < (n : Int) := by omega
        have hmade := Lib.hid (show ∀ w5 : World, w5.ownsRow wr.heap.size 5 1 (.slice (some ⟨wr.heap.size, 0, none⟩) m m) m (madeCells (Value.int .u8 0).cells (m * 1)).toList → wr.grownBy w5 none → Seen w5 (some ⟨wr.heap.size, 0, none⟩) (bytesV (List.replicate m 0)) ∧ IsJ w5 B g s r jg q J ∧ Below w.heap.size w w5 from fun w5 ho hg => by
          have hbb := (Below.refl wr.heap.size wr).grown hg (Nat.le_refl _) (fun k e => by cases e)
          rw [made_u8] at ho
          exact ⟨Seen.of_own ho, Hj.out.below hbb, Hb.out.trans (hbb.mono Hb.out.size)⟩)
        have hy16 : y ≤ 16 := by rw [← Hy.out]; exact room_many (by omega) hm5
        have hJk : J.k < 1000000 := by rw [Hrun.out.jk, Hts.out]; omega
        have hJL : J.L.length < 100000 := by rw [Hrun.out.jL, firsts_length, Hts.out]; omega
        have hJd : J.d.L.length ≤ 900000 := by have := Hrun.out.few; omega
        by_cases hfit : y ≤ R
        · obtain ⟨J', ha, hr', hnx'⟩ := Hrun.out.add (t := List.replicate m 0) (by rw [Hts.out]; exact HfE.out) (by rw [Hts.out, Hy.out, ← hR2]; exact hfit) (by rw [Hts.out]; omega)
          rw [Hts.out, Hy.out] at hnx'
          obtain ⟨R', hR'⟩ : ∃ R', J'.fin - J'.next = R' := ⟨_, rfl⟩
          have hRR : (R : Int) - (y : Int) = (R' : Int) := by rw [← hR', hr'.fin, hnx']; omega
          have Ha := Lib.hid ha; have Hr' := Lib.hid hr'; have HR' := Lib.hid hR'
          have hfiti : (y : Int) ≤ (R : Int) := by omega
          clear ha hr' hR' hnx'
          go_wp2_with (first
            | (at_make; go_loud (refine wpList_make_full _ rfl (.tmp 47) (.tmp 47) _ rfl wr.heap.size 5 i0 (.int .u8 0) 1 Try.underlying22 hi hz0 hz1 .i64 .i64 _ _ m rfl rfl (by omega) (by omega) (by rw [hz2]; omega) (by unfold maxLen; omega) (Nat.le_refl _) ?_; intro w5 hown hgr; have hm5' := hmade.out w5 hown hgr; have Hs5 := Lib.hid hm5'.1; have Hj5 := Lib.hid hm5'.2.1; have Hb5 := Lib.hid hm5'.2.2; clear hown hgr hm5'))
            | (go_at_call 7; refine (Form_ok 7 cnt (some ⟨wr.heap.size, 0, none⟩) m m (List.replicate m 0) w5 (by omega) (by omega) List.length_replicate Hs5.out N (by rw [Hy.out]; exact HN.out) HfE.out).mono ?_; rintro e w6 ⟨bf, rfl, _, _, hb6⟩; have Hs6 := Lib.hid (Hs5.out.below hb6); have Hj6 := Lib.hid (Hj5.out.below hb6); have Hb6 := Lib.hid (Hb5.out.trans (hb6.mono Hb5.out.size)); clear hb6))
          refine (Room_any B g s r jg q J w6 Hj6.out).mono ?_
          rw [HR.out]
          rintro e w7 ⟨rfl, hb7⟩
          have Hs7 := Lib.hid (Hs6.out.below hb7); have Hj7 := Lib.hid (Hj6.out.below hb7); have Hb7 := Lib.hid (Hb6.out.trans (hb7.mono Hb6.out.size))
          have hB7 : B ≤ w7.heap.size := by have := Hb7.out.size; have := HB.out; omega
          clear hb7
          go_wp2_with fail
          refine (Add_any B g s r jg q J (some ⟨wr.heap.size, 0, none⟩) m m (List.replicate m 0) w7 Hj7.out hJd hJk hJL hB7 List.length_replicate Hs7.out).mono ?_
          rw [Ha.out]
          rintro e w8 ⟨rfl, hmv⟩
          have Hb8 := Lib.hid (Hb7.out.trans ((hmv.below Hj7.out hB7).mono (by rw [HB.out]; exact Nat.le_refl _)))
          obtain ⟨r8, q8, hj8, _, _, _⟩ := hmv
          have Hj8 := Lib.hid hj8
          clear hj8
          go_wp2_with (go_at_call 16; refine (Room_any B g s r8 jg q8 J' w8 Hj8.out).mono ?_; rw [HR'.out]; rintro e w9 ⟨rfl, hb9⟩; have Hj9 := Lib.hid (Hj8.out.below hb9); have Hb9 := Lib.hid (Hb8.out.trans (hb9.mono Hb8.out.size)); clear hb9)
          go_roundw
          case rel => exact ⟨k + 1, cnt + 1, by omega, by go_num, by go_num, ts ++ [List.replicate m 0], J', r8, q8, by rw [List.length_append, Hts.out]; rfl, by omega, Hr'.out, Hj9.out, Hb9.out⟩
          case measure => simp [intOf]; omega
        · have ha := Hrun.out.full (t := List.replicate m 0) (by rw [Hts.out]; exact HfE.out) (by rw [Hts.out, Hy.out, ← hR2]; exact hfit)
          have Ha := Lib.hid ha
          have hfiti : ¬ (y : Int) ≤ (R : Int) := by omega
          clear ha
          go_wp2_with (first
            | (at_make; go_loud (refine wpList_make_full _ rfl (.tmp 47) (.tmp 47) _ rfl wr.heap.size 5 i0 (.int .u8 0) 1 Try.underlying22 hi hz0 hz1 .i64 .i64 _ _ m rfl rfl (by omega) (by omega) (by rw [hz2]; omega) (by unfold maxLen; omega) (Nat.le_refl _) ?_; intro w5 hown hgr; have hm5' := hmade.out w5 hown hgr; have Hs5 := Lib.hid hm5'.1; have Hj5 := Lib.hid hm5'.2.1; have Hb5 := Lib.hid hm5'.2.2; clear hown hgr hm5'))
            | (go_at_call 7; refine (Form_ok 7 cnt (some ⟨wr.heap.size, 0, none⟩) m m (List.replicate m 0) w5 (by omega) (by omega) List.length_replicate Hs5.out N (by rw [Hy.out]; exact HN.out) HfE.out).mono ?_; rintro e w6 ⟨bf, rfl, _, _, hb6⟩; have Hs6 := Lib.hid (Hs5.out.below hb6); have Hj6 := Lib.hid (Hj5.out.below hb6); have Hb6 := Lib.hid (Hb5.out.trans (hb6.mono Hb5.out.size)); clear hb6))
          refine (Room_any B g s r jg q J w6 Hj6.out).mono ?_
          rw [HR.out]
          rintro e w7 ⟨rfl, hb7⟩
          have Hs7 := Lib.hid (Hs6.out.below hb7); have Hj7 := Lib.hid (Hj6.out.below hb7); have Hb7 := Lib.hid (Hb6.out.trans (hb7.mono Hb6.out.size))
          have hB7 : B ≤ w7.heap.size := by have := Hb7.out.size; have := HB.out; omega
          clear hb7
          go_wp2_with fail
          refine (Add_any B g s r jg q J (some ⟨wr.heap.size, 0, none⟩) m m (List.replicate m 0) w7 Hj7.out hJd hJk hJL hB7 List.length_replicate Hs7.out).mono ?_
          rw [Ha.out]
          rintro e w8 ⟨rfl, hmv⟩
          have Hb8 := Lib.hid (Hb7.out.trans ((hmv.below Hj7.out hB7).mono (by rw [HB.out]; exact Nat.le_refl _)))
          obtain ⟨r8, q8, hj8, _, _, _⟩ := hmv
          have Hj8 := Lib.hid hj8
          clear hj8
          go_wp2_with (go_at_call 16; refine (Room_any B g s r8 jg q8 J w8 Hj8.out).mono ?_; rw [HR.out]; rintro e w9 ⟨rfl, hb9⟩; have Hj9 := Lib.hid (Hj8.out.below hb9); have Hb9 := Lib.hid (Hb8.out.trans (hb9.mono Hb8.out.size)); clear hb9)
          go_roundw
          case rel => exact ⟨k + 1, cnt, by omega, by go_num, by go_num, ts, J, r8, q8, Hts.out, by omega, Hrun.out, Hj9.out, Hb9.out⟩
          case measure => simp [intOf]; omega
      · obtain ⟨J', ha, ok', up', n', L', nx', fin', view'⟩ := Hrun.out.flush
        have Ha := Lib.hid ha
        have hp' : J'.d.part 0 30 = formsX 1 7 0 ts ++ List.replicate (64 * (30 - J.next)) 0 := by rw [part_all ok'.d n', view']
        have hs1 : Scanned 7 (J'.d.part 0 30) ts := by rw [hp']; exact scanned_forms Hrun.out.forms
        have Hs1 := Lib.hid hs1
        have hnext : secsUp 7 0 ts = J.next := Hrun.out.next.symm
        have hroom : (30 : Int) - ((J'.fin - J'.next : Nat) : Int) = (J.next : Int) := by rw [fin', nx']; omega
        have hJd : J.d.L.length ≤ 800000 := by have := Hrun.out.few; omega
        have Hok := Lib.hid (And.intro ok' (And.intro up' (And.intro n' (And.intro L' (And.intro nx' fin')))))
        have Hnext := Lib.hid hnext; have Hroom := Lib.hid hroom
        clear ha ok' up' n' L' nx' fin' view' hp' hs1 hnext hroom
        go_wp2_with fail
        refine (JFlush_any B g s r jg q J wr Hj.out hJd hBr).mono ?_
        rw [Ha.out]
        rintro e w3 ⟨rfl, hmv⟩
        have Hb3 := Lib.hid (Hb.out.trans ((hmv.below Hj.out hBr).mono (by rw [HB.out]; exact Nat.le_refl _)))
        obtain ⟨r3, q3, hj3, _, _, _⟩ := hmv
        have Hj3 := Lib.hid hj3
        clear hj3
        go_wp2_with fail
        refine (Scan_any B g s r3 J'.d 0 30 7 w3 Hj3.out.dev (by rw [Hok.out.2.2.2.1]; exact Nat.zero_le _) Hok.out.2.1.2 (by rw [Hok.out.2.2.1]; omega) (by omega)).mono ?_
        rintro e w5 ⟨hb5, us5, A5, m5, c5, rfl, hsc, hta⟩
        obtain rfl := hsc.one Hs1.out
        rw [Hnext.out]
        have hm5 : m5 = cnt := by rw [← hta.1, Hts.out]
        subst hm5
        have Hj5 := Lib.hid (Hj3.out.below hb5)
        have Hb5 := Lib.hid (Hb3.out.trans (hb5.mono Hb3.out.size))
        clear hb5 hsc hta
        obtain ⟨R', hR'⟩ : ∃ R', J'.fin - J'.next = R' := ⟨_, rfl⟩
        have hroom := Hroom.out
        rw [hR'] at hroom
        have HR' := Lib.hid hR'
        clear hR'
        go_wp2_with (first
          | (go_at_call 16; refine (Room_any B g s r3 jg q3 J' w5 Hj5.out).mono ?_; rw [HR'.out]; rintro e w7 ⟨rfl, hb7⟩; have Hb7 := Lib.hid (Hb5.out.trans (hb7.mono Hb5.out.size)); clear hb7)
          | (go_at_call 6; refine (awake_any w7).mono ?_; rintro e w8 ⟨rfl, hb8⟩; have Hb8 := Lib.hid (Hb7.out.trans (hb8.mono Hb7.out.size)); clear hb8))
        go_ret
        exact ⟨rfl, Hb8.out⟩

/-! ### THE ROW -/
theorem own : ownKnob Try.prog.godebug = none := by kernel_rfl

set_option maxRecDepth 100000 in
theorem lifted (os : Os) (started : os.Started) (H : Type) (enc : TypeId × Value → H) :
    ReturnsInHanded {} Try.checked os 5 .any (Rows.journalRoomSpec.pre6 enc Try.prog Try.f5 Rows.journalRoomRow.domain false) (Rows.journalRoomSpec.post enc Try.prog Try.f5 false true false false) := by
  refine returnsInHanded_of_change (C := Try.checked) own started (by kernel_rfl) Try.func5
    (ChangeSpec.witness6 (enc := enc) (C := Try.checked) false ⟨#[], #[.slice none 0 0], []⟩ 8 (by kernel_rfl) (by kernel_rfl) (by kernel_rfl) (by kernel_rfl)) ?_
  intro W base args ds gs before hval0 hW hcnd _
  have hval : ∀ (j : Nat) t v, Try.f5.params[j]? = some t → args[j]? = some v → Value.okWide Try.prog W .any base t v := hval0
  have hW' := hW
  obtain ⟨p, q, hA0, hV, rfl, hfz, hnd⟩ := hW
  have hA : DataW.TrodAll enc Try.prog W 0 (fun _ => true) true Try.f5.params.toList args.toList ds p := hA0
  rw [Try.params5] at hA hval
  obtain ⟨v0, vs0, d0, ds0, p0, q0, hargs, rfl, rfl, h0, r0⟩ := trodAll_cons hA
  obtain ⟨rfl, rfl, rfl⟩ := trodAll_nil r0
  obtain rfl : args = #[v0] := by cases args; simp_all
  obtain ⟨rfl, rfl⟩ := trodVars_none hV
  obtain ⟨A0, n0, c0, us0, rfl, hn0, hnc0, hcm0, hs0, hu0⟩ := open_u16s Try.underlying44 Try.underlying45 (by kernel_rfl) (hval 0 44 v0 rfl rfl) h0
  refine (walk A0 n0 c0 us0 W hn0 hnc0 hcm0 hs0 hu0).mono fun e W' ⟨he, hg⟩ => ?_
  subst he
  exact ⟨_, rfl, law_post hW' rfl (by kernel_rfl) (by kernel_rfl) (by kernel_rfl) Try.underlying4 rfl rfl rfl hg⟩

theorem over : Rows.journalRoomRow.holds Try.pinned (OpenSpec.ofChange Rows.journalRoomSpec) :=
  OpenClaim.holds_of_wide 5 Try.f5 rfl rfl rfl rfl rfl rfl rfl ⟨rfl, rfl, rfl, rfl, rfl⟩ rfl rfl rfl rfl rfl (by kernel_rfl) Try.func5 (by kernel_rfl)
    (of_decide_eq_true (by kernel_rfl)) (by unfold Func.isWrapper; first | (rw [if_pos (by decide +kernel)]; kernel_rfl) | (rw [if_neg (by decide +kernel)]; exact ⟨rfl, rfl⟩))
    (fun os started H enc _ => lifted os started H enc)

theorem proved : Rows.JournalRoomSaid :=
  over
#print axioms proved

end Go.Proofs.Ytcplclnlcfhoeaa.journalRoom
