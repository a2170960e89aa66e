/-
  SchedReserve: with policies without limits that as many picks admit as are tried in each tick, a flow that is always up has at least what is reserved for it, less as many as there are flows, and three, in any span (of 6 flows, 80 ticks); it holds for every input, and the arguments stay as they were. No condition.
-/
import Derived.Test.YtbfjakchgmdldaaSchRsv
import Derived.Test.YtbfjakchgmdldaaLaw
import Derived.Test.YtbfjakchgmdldaaPolOpen
import Derived.Test.YtbfjakchgmdldaaPolAd
import Derived.Deep.DeepCutAuto
import Derived.Test.YtbfjakchgmdldaaRows
import Derived.Test.YtbfjakchgmdldaaChecked
namespace Go.Proofs.Ytbfjakchgmdldaa.SchedReserve
open Go.ChangeShapes Go.WideShapes Go.ChangeAt Go.RowKit
set_option linter.unusedVariables false

attribute [local go_sem ↓] ldPol_eq ldCnt_eq stCnt_eq
theorem byte_mod (y : UInt8) (d : Nat) : (wrap64 (y.toNat : Int)).tmod (d : Int) = ((y.toNat % d : Nat) : Int) := by
  have h1 := y.toNat_lt
  have e : wrap64 (y.toNat : Int) = (y.toNat : Int) := by unfold wrap64; omega
  rw [e]
  rfl
theorem w64 (n : Int) (h1 : -9223372036854775808 ≤ n) (h2 : n ≤ 9223372036854775807) : wrap64 n = n := by
  unfold wrap64
  omega
set_option maxRecDepth 100000 in
set_option maxHeartbeats 8000000 in
theorem walkIn (A : Option Addr) (m cA : Nat) (l : List Pol) (pk : Int) (P : Option Addr) (nm cP : Nat) (bs : List UInt8) (tk : Int) (w0 : World) (hm : l.length = m) (hm6 : m ≤ 6) (hl : PolsAt w0 A l) (hpk : 0 ≤ pk ∧ pk ≤ 255) (hn : bs.length = nm) (hle : nm ≤ 80) (hs : Seen w0 P (bytesV bs)) (htk : 0 ≤ tk ∧ tk ≤ 255) (had : admitsP (1 + pk % 8) l = true) :
    Calls Try.prog 4 #[.slice A m cA, .int .u8 pk, .slice P nm cP, .int .u8 tk] w0 fun e w' => e = .returned (.bool true) ∧ Below w0.heap.size w0 w' := by
  obtain ⟨pk1, pk2⟩ := hpk
  obtain ⟨tk1, tk2⟩ := htk
  have hn8 : 1 ≤ 1 + pk % 8 ∧ 1 + pk % 8 ≤ 8 := by omega
  have KA := Lib.hid (RAdmits_any (1 + pk % 8) A m cA l w0 hm (by unfold maxLen; omega) hl (by unfold In64; omega))
  rw [had] at KA
  obtain ⟨a1, a2, a3⟩ := admits_parts had
  have Hright := Lib.hid a2; have Hload := Lib.hid a3
  have Hn := Lib.hid hn; have Hm := Lib.hid hm; have Hl0 := Lib.hid hl; have Hs0 := Lib.hid hs
  have g1 : ¬ (6 : Int) < (m : Int) := by omega
  have g2 : ¬ (80 : Int) < (nm : Int) := by omega
  clear hn hs hl hm a1 a2 a3 had
  go_enter Try.func4, Try.ntmps4
  go_upto_region 7 with (first
    | (go_at_call 9; refine (New_any w).mono ?_; unfold NewRet; rintro e w1 ⟨rfl, hA, hb1⟩; have HA := Lib.hid hA; have Hb1 := Lib.hid hb1; clear hA hb1)
    | (go_at_call 16; refine KA.out.mono ?_; rintro e w ⟨rfl, hb0⟩; have Hb0 := Lib.hid hb0; clear hb0))
  obtain ⟨n, hn⟩ : ∃ n : Nat, 1 + pk % 8 = n := ⟨(1 + pk % 8).toNat, by omega⟩
  rw [hn] at Hload hn8 ⊢
  obtain ⟨Z, hZ⟩ : ∃ Z, w.heap.size = Z := ⟨_, rfl⟩
  rw [hZ] at HA Hb1 ⊢
  have HZ := Lib.hid hZ
  have Hz := Lib.hid (fun (W : World) (h : Below Z w W) => show Z ≤ W.heap.size by have := h.size; omega)
  have HF := Lib.hid (fun (W : World) (h : Below Z w W) => show Below w0.heap.size w0 W from Hb0.out.trans (h.mono (by rw [← hZ]; exact Hb0.out.size)))
  have HS := Lib.hid (fun (W : World) (hb : Below Z w W) => show Seen W P (bytesV bs) from Hs0.out.below (HF.out W hb))
  have HL := Lib.hid (fun (W : World) (hb : Below Z w W) => show PolsAt W A l from Hl0.out.below (HF.out W hb))
  clear KA g1 g2 hn hZ pk1 pk2
  go_wp2
  go_loopw [11] (fun iv wr => ∃ (i : Nat) (F : Int → Fl), iv = .int .i64 (i : Int) ∧ i ≤ m ∧ SchAt wr Z (Z + 1) (ksN i) F ∧ UpF l i F ∧ ResF l i (fun _ => 0) F ∧ Below Z w wr) (fun iv _ => m - (intOf iv).toNat)
  case atStart => exact ⟨0, _, rfl, by omega, HA.out, UpF.nil _ _, ResF.nil _ _ _, Hb1.out⟩
  case round =>
    obtain ⟨i, F, rfl, hi, hs, hu, hr, hb⟩ := hrel
    have Hs2 := Lib.hid hs; have Hu2 := Lib.hid hu; have Hr2 := Lib.hid hr; have Hb2 := Lib.hid hb
    clear hs hu hr hb HA Hb1
    have i0 : (0 : Int) ≤ (i : Int) := by omega
    by_cases hlt : i < m
    · have i1 : (i : Int) < (m : Int) := by omega
      obtain ⟨ga, o, p, rfl, hp, hat⟩ := (HL.out _ Hb2.out).get (k := i) (by rw [Hm.out]; exact hlt)
      have wi := wrap_in ((i : Int) + 1) (by omega) (by omega)
      have Hat := Lib.hid hat
      have hld := ldPol_run hat
      have c2 := hat.2.2.1
      have hr := Hright.out i p hp
      have Hp := Lib.hid hp; have Hr := Lib.hid hr
      clear hat hp hr
      by_cases hli : p.li = 0
      · have Hli := Lib.hid hli
        go_upto_region 12 with fail
        clear hli c2
        go_wp2_with (first
          | (go_at_call 12; refine (up_fill (l := l) (by omega) Hu2.out HA4.out (Hz.out _ Hb4.out)).mono ?_; rintro e w5 ⟨rfl, x, hx, hA, hk⟩; have HA5 := Lib.hid hA; have Hx5 := Lib.hid hx; have Hb5 := Lib.hid (Hb4.out.trans (hk.below (Hz.out _ Hb4.out))); clear hA hx hk)
          | (go_at_call 11; refine (up_set (l := l) (by omega) Hs2.out Hr.out Hat.out.2.2.2.2 (Hz.out _ Hb2.out)).mono ?_; rintro e w4 ⟨rfl, hA, hk⟩; have HA4 := Lib.hid hA; have Hb4 := Lib.hid (Hb2.out.trans (hk.below (Hz.out _ Hb2.out))); clear hA hk))
        go_roundw
        case rel => exact ⟨i + 1, _, by go_num, by omega, HA5.out, Hu2.out.more Hp.out Hr.out Hx5.out, Hr2.out.more Hli.out, Hb5.out⟩
        case measure => simp [intOf]; omega
      · go_wp2_with (go_at_call 8; refine (awake_any _).mono ?_; rintro e w4 ⟨rfl, hb4⟩; have B4 := Lib.hid (Hb2.out.trans (hb4.mono (Hz.out _ Hb2.out))); clear hb4)
        go_ret
        exact ⟨rfl, HF.out _ B4.out⟩
    · obtain rfl : i = m := by omega
      have i1 : ¬ (i : Int) < (i : Int) := by omega
      clear hi hlt i0
      have hza := zAll_run
      go_upto_region 16 with fail
      clear hza
      obtain ⟨q1, hq1⟩ : ∃ g, wr.heap.size = g := ⟨_, rfl⟩
      have hc0 : CntAt (wr.alloc (.cells #[.int .i64 0, .int .i64 0, .int .i64 0, .int .i64 0, .int .i64 0, .int .i64 0] 43)) wr.heap.size (fun _ => 0) := heap_alloc_new _ _
      have hbx := below_box wr (.cells #[.int .i64 0, .int .i64 0, .int .i64 0, .int .i64 0, .int .i64 0, .int .i64 0] 43)
      have hsz : (wr.alloc (.cells #[.int .i64 0, .int .i64 0, .int .i64 0, .int .i64 0, .int .i64 0, .int .i64 0] 43)).heap.size = wr.heap.size + 1 := by simp
      change Code.wp _ _ _ _ ((wr.alloc (.cells #[.int .i64 0, .int .i64 0, .int .i64 0, .int .i64 0, .int .i64 0, .int .i64 0] 43)).alloc (.cells zAll 44))
      generalize wr.alloc (.cells #[.int .i64 0, .int .i64 0, .int .i64 0, .int .i64 0, .int .i64 0, .int .i64 0] 43) = w5 at hc0 hbx hsz ⊢
      have ha0 := AllAt.new w5
      have hby := below_box w5 (.cells zAll 44)
      change Code.wp _ _ _ _ (w5.alloc (.cells zAll 44))
      generalize w5.alloc (.cells zAll 44) = w6 at ha0 hby ⊢
      rw [hsz] at ha0 hby
      rw [hq1] at hc0 ha0 hby ⊢
      have hb5 := Hb2.out.trans (hbx.mono (Hz.out _ Hb2.out))
      have hb6 := hb5.trans (hby.mono (by have := Hz.out _ Hb2.out; omega))
      have hZq : Z ≤ q1 := by rw [← hq1]; exact Hz.out _ Hb2.out
      have hby' : Below w5.heap.size w5 w6 := by rw [hsz, hq1]; exact hby
      have R6 : RsvAt w6 Z (Z + 1) q1 (q1 + 1) l i 0 (12 * 0) (fun _ => 0) (fun _ => 0) (fun _ _ => 0) (fun _ _ => 0) F :=
        ⟨(Hs2.out.below hbx).below hby', Hu2.out, Hr2.out, fun k hk => by omega, Hist.start _ _, hc0.below hby', ha0, fun k => by omega, hZq, by omega, by omega⟩
      have HR6 := Lib.hid R6; have Hb6 := Lib.hid hb6
      have HlN : Hid (loadN (sN l) i ≤ n * 16777216) := Lib.hid (by
        have h1 := load_is l i (by rw [Hm.out]; exact Nat.le_refl _)
        rw [← Hm.out, List.take_length] at h1
        have h2 := Hload.out
        rw [← Hm.out]
        omega)
      clear hc0 hbx hsz ha0 hby hq1 hb5 hb6 hZq hby' R6 i1 Hs2 Hu2 Hr2 Hb2
      go_wp2
      go_loopw [14] (fun tv wr => ∃ (T t : Nat) (F : Int → Fl) (c cnt : Nat → Nat) (C D : Nat → Nat → Nat), tv = .int .i64 (T : Int) ∧ T = t + 1 ∧ (t : Int) ≤ tk % 81 ∧ RsvAt wr Z (Z + 1) q1 (q1 + 1) l i t (12 * t) c cnt C D F ∧ AtEnd (sN l) c i t ∧ Below Z w wr) (fun tv _ => 82 - (intOf tv).toNat)
      case atStart => exact ⟨1, 0, F, _, _, _, _, rfl, rfl, by omega, HR6.out, atEnd_zero _ _ _, Hb6.out⟩
      case round =>
        obtain ⟨T, t, F3, c3, cnt3, C3, D3, rfl, hT, ht, hr, hae, hb⟩ := hrel
        have HR3 := Lib.hid hr; have Hae := Lib.hid hae; have Hb3 := Lib.hid hb; have HT := Lib.hid hT
        clear hr hae hb HR6 Hb6
        have T0 : (0 : Int) ≤ (T : Int) := by omega
        by_cases hlt : (T : Int) ≤ tk % 81
        · have wt := wrap_in ((T : Int) + 1) (by omega) (by omega)
          have T81 : (T : Int) < 81 := by omega
          clear hT ht
          go_upto_if 84 with fail
          go_cut [15] (fun v wx => ∃ K : Nat, v = .int .i64 (K : Int) ∧ n ≤ K ∧ K ≤ n + 3 ∧ wr = wx)
          case first =>
            by_cases hmo : T < nm
            · have mo : (T : Int) < (nm : Int) := by omega
              obtain ⟨gp, op, x, rfl, hx, hxt, hca⟩ := (HS.out _ Hb3.out).byteAt (j := T) (by rw [Hn.out]; exact hmo)
              have hcv := byte_mod x 4
              obtain ⟨y, hy, hy4⟩ : ∃ y, x.toNat % 4 = y ∧ y < 4 := ⟨_, rfl, Nat.mod_lt _ (by omega)⟩
              rw [hy] at hcv
              have wn := wrap_in ((n : Int) + (y : Int)) (by omega) (by omega)
              clear hx hxt hy
              go_wp2
              go_meet
              exact ⟨n + y, by rw [show (wrap64 (x.toNat : Int)).tmod 4 = (y : Int) from hcv, w64 _ (by omega) (by omega), Int.natCast_add], by omega, by omega, rfl⟩
            · have mo : ¬ (T : Int) < (nm : Int) := by omega
              go_wp2
              go_meet
              exact ⟨n, rfl, by omega, by omega, rfl⟩
          case rest =>
            obtain ⟨K, rfl, hK1, hK2, rfl⟩ := hcut
            go_wp2
            go_loopw [16] (fun jv wq => ∃ (j : Nat) (F : Int → Fl) (c cnt : Nat → Nat), jv = .int .i64 (j : Int) ∧ j ≤ K ∧ RsvAt wq Z (Z + 1) q1 (q1 + 1) l i t (12 * t + j) c cnt C3 D3 F ∧ Within (sN l) c i t j ∧ Below Z w wq) (fun jv _ => K - (intOf jv).toNat)
            case atStart => exact ⟨0, F3, c3, cnt3, rfl, by omega, HR3.out, within_zero Hae.out, Hb3.out⟩
            case round =>
              obtain ⟨j, F4, c4, cnt4, rfl, hj, hr, hwi, hb⟩ := hrel
              have HR4 := Lib.hid hr; have Hwi := Lib.hid hwi; have Hb4 := Lib.hid hb
              clear hr hwi hb HR3 Hae Hb3
              have j0 : (0 : Int) ≤ (j : Int) := by omega
              by_cases hjc : j < K
              · have j1 : (j : Int) < (K : Int) := by omega
                have wj := wrap_in ((j : Int) + 1) (by omega) (by omega)
                go_upto_region 26 with (go_at_call 13; refine (up_pick HR4.out.sch HR4.out.up hm6 (by unfold In64; omega) (Hz.out _ Hb4.out)).mono ?_; rintro e w7 ⟨k, ph, it, ok, rfl, hk7, h7⟩; have Hb7 := Lib.hid (Hb4.out.trans (hk7.below (Hz.out _ Hb4.out))); have Hc7 := Lib.hid (HR4.out.cn.kept hk7); have Ha7 := Lib.hid (HR4.out.al.kept hk7); have H7 := Lib.hid h7; clear hk7 h7)
                have hbb := below_box w7 (.cells #[.int .i64 it.na, .int .i64 it.de, .int .i64 it.rh] 36)
                change Code.wp _ _ _ _ (w7.alloc (.cells #[.int .i64 it.na, .int .i64 it.de, .int .i64 it.rh] 36))
                generalize w7.alloc (.cells #[.int .i64 it.na, .int .i64 it.de, .int .i64 it.rh] 36) = w8 at hbb ⊢
                have Hb8 := Lib.hid (Hb7.out.trans (hbb.mono (Hz.out _ Hb7.out)))
                have Hc8 := Lib.hid (Hc7.out.below hbb)
                have Ha8 := Lib.hid (Ha7.out.below hbb)
                have h7 := H7.out
                rw [HT.out] at h7
                have ht80 : t ≤ 90 := by have := HT.out; omega
                rcases h7 with ⟨rfl, hs7, hN⟩ | ⟨rfl, q, f, rfl, hq, hN, hp, hc, hq2, hs7⟩
                · have hs8 := hs7.below hbb
                  have hst : RsvAt w8 Z (Z + 1) q1 (q1 + 1) l i t (12 * t + (j + 1)) c4 cnt4 C3 D3 F4 := ⟨hs8, HR4.out.up, HR4.out.res, HR4.out.low, HR4.out.hist, Hc8.out, Ha8.out, fun k => Nat.le_trans (HR4.out.bd k) (by omega), HR4.out.base⟩
                  have Hst := Lib.hid hst
                  have Hwi2 := Lib.hid (within_pick Hwi.out (HR4.out.idle ht80 hN))
                  clear hs7 hbb H7 hN hs8 hst
                  go_wp2
                  go_roundw
                  case rel => exact ⟨j + 1, F4, c4, cnt4, by go_num, by omega, Hst.out, Hwi2.out, Hb8.out⟩
                  case measure => simp [intOf]; omega
                · have Hs8 := Lib.hid (hs7.below hbb)
                  have Hq := Lib.hid hq; have HN := Lib.hid hN; have Hp := Lib.hid hp; have Hc := Lib.hid hc; have Hq2 := Lib.hid hq2
                  clear hs7 hbb H7 hN hp hc hq2
                  have hqi := Hq.out
                  have z0 : (0 : Int) ≤ (q : Int) := by omega
                  have z6 : (q : Int) < 6 := by omega
                  have cc : w8.cell? ⟨q1, q, none⟩ = some (.int .i64 (cnt4 q : Int)) := by rw [row_cell Hc8.out]; exact cntRow_at cnt4 (by omega)
                  have cz : w8.frozen? ⟨q1, q, none⟩ = false := row_frozen Hc8.out q
                  have hbd := HR4.out.bd q
                  have wc := wrap_in ((cnt4 q : Int) + 1) (by omega) (by omega)
                  obtain ⟨w9, hw9⟩ : ∃ W, w8.setCell ⟨q1, q, none⟩ (.int .i64 ((cnt4 q : Int) + 1)) = W := ⟨_, rfl⟩
                  obtain ⟨s9, c9, a9, t9⟩ := cnt_store Hs8.out Hc8.out Ha8.out (show q < 6 by omega) HR4.out.base.2.2 hw9
                  have Hs9 := Lib.hid s9; have Hc9 := Lib.hid c9; have Ha9 := Lib.hid a9
                  have Hb9 := Lib.hid (Hb8.out.trans (t9.below (fun j hj => by rw [hj]; exact HR4.out.base.1) (Hz.out _ Hb8.out)))
                  clear s9 c9 a9 t9 hqi hbd
                  go_upto_region 28 with fail
                  clear hw9 cc cz wc
                  go_wp2_with (go_at_call 14; refine (up_push Hs9.out Hq.out hm6 Hq2.out (by unfold In64; omega) (Hz.out _ Hb9.out)).mono ?_; rintro e w10 ⟨rfl, hA, hk⟩; have HA10 := Lib.hid hA; have Hc10 := Lib.hid (Hc9.out.kept hk); have Ha10 := Lib.hid (Ha9.out.kept hk); have Hb10 := Lib.hid (Hb9.out.trans (hk.below (Hz.out _ Hb9.out))); clear hA hk)
                  obtain ⟨c5, e1, e2⟩ := HR4.out.step Hq.out ht80 HN.out Hp.out Hc.out Hq2.out HA10.out Hc10.out Ha10.out
                  have E1 := Lib.hid e1; have E2 := Lib.hid e2
                  clear e1 e2
                  go_roundw
                  case rel => exact ⟨j + 1, _, c5, _, by go_num, by omega, E2.out, within_pick Hwi.out E1.out, Hb10.out⟩
                  case measure => simp [intOf]; omega
              · obtain rfl : j = K := by omega
                have j1 : ¬ (j : Int) < (j : Int) := by omega
                clear hj hjc
                have Hae5 := Lib.hid (atEnd_of Hwi.out hK1 HlN.out (by have := HT.out; have : i * (t + 1) ≤ 6 * 91 := Nat.mul_le_mul hm6 (by omega); omega))
                obtain ⟨W, r1, r2, r3⟩ := HR4.out.al.put (show t + 1 ≤ 80 by have := HT.out; omega) cnt4
                rw [← HT.out] at r1
                have hld := ldCnt_run HR4.out.cn
                have HR5 := Lib.hid (HR4.out.tick r2 r3)
                have Hb5 := Lib.hid (Hb4.out.trans (r3.below (fun j hj => by rw [hj]; exact HR4.out.base.2.1) (Hz.out _ Hb4.out)))
                clear r2 r3
                go_wp2
                clear r1 hld
                obtain ⟨C6, hC6⟩ : ∃ X, putT C3 (t + 1) c4 = X := ⟨_, rfl⟩
                obtain ⟨D6, hD6⟩ : ∃ X, putT D3 (t + 1) cnt4 = X := ⟨_, rfl⟩
                rw [hC6, hD6, ← HT.out] at HR5
                rw [← HT.out] at Hae5
                have HDT : Hid (D6 T = cnt4) := Lib.hid (by rw [← hD6, HT.out]; unfold putT; rw [if_pos rfl])
                have Hlen : Hid (j ≤ 11) := Lib.hid (by omega)
                clear hC6 hD6 HR4 Hwi Hb4
                go_loopw [21] (fun iv wr => ∃ (k : Nat), iv = .int .i64 (k : Int) ∧ k ≤ i ∧ RsvAt wr Z (Z + 1) q1 (q1 + 1) l i T (12 * t + j) c4 cnt4 C6 D6 F4 ∧ Below Z w wr) (fun iv _ => i - (intOf iv).toNat)
                case atStart => exact ⟨0, rfl, by omega, HR5.out, Hb5.out⟩
                case round =>
                  obtain ⟨k, rfl, hk, hr, hb⟩ := hrel
                  have HR6 := Lib.hid hr; have Hb6 := Lib.hid hb
                  clear hr hb HR5 Hb5
                  have k0 : (0 : Int) ≤ (k : Int) := by omega
                  by_cases hki : k < i
                  · have k1 : (k : Int) < (i : Int) := by omega
                    have k6 : (k : Int) < 6 := by omega
                    have wk := wrap_in ((k : Int) + 1) (by omega) (by omega)
                    obtain ⟨ga, o, p, rfl, hp, hat⟩ := (HL.out _ Hb6.out).get (k := k) (by rw [Hm.out]; exact hki)
                    have c0 := hat.1
                    have KS := Lib.hid (refSpace_any p.re wr)
                    rw [← sN_is hp] at KS
                    have hsl := sN_le l k
                    obtain ⟨S, hS⟩ : ∃ S, sN l k = S := ⟨_, rfl⟩
                    rw [hS] at KS hsl
                    have HSn := Lib.hid hS
                    clear hS hat hp
                    go_wp2_with (go_at_call 17; refine KS.out.mono ?_; rintro e w11 ⟨rfl, rfl⟩)
                    clear c0 KS
                    go_loopw [23] (fun av wr => ∃ (a : Nat), av = .int .i64 (a : Int) ∧ a ≤ T ∧ RsvAt wr Z (Z + 1) q1 (q1 + 1) l i T (12 * t + j) c4 cnt4 C6 D6 F4 ∧ Below Z w wr) (fun av _ => T - (intOf av).toNat)
                    case atStart => exact ⟨0, rfl, by omega, HR6.out, Hb6.out⟩
                    case round =>
                      obtain ⟨a, rfl, ha, hr, hb⟩ := hrel
                      have HR7 := Lib.hid hr; have Hb7 := Lib.hid hb
                      clear hr hb HR6 Hb6
                      have a0 : (0 : Int) ≤ (a : Int) := by omega
                      by_cases haT : a < T
                      · have aT : (a : Int) < (T : Int) := by omega
                        have a81 : (a : Int) < 81 := by omega
                        have wa := wrap_in ((a : Int) + 1) (by omega) (by omega)
                        by_cases hS0 : 0 < S
                        · have s0 : (0 : Int) < (S : Int) := by omega
                          have s1 : ¬ (S : Int) = 0 := by omega
                          have ask := HR7.out.hist.asks Hae5.out ha hki (by rw [HSn.out]; exact hS0)
                          rw [HSn.out] at ask
                          have cT := HR7.out.al.2 T (Nat.le_refl _) k (by omega)
                          have cA := HR7.out.al.2 a ha k (by omega)
                          have bT := HR7.out.bd k
                          have bA := (HR7.out.hist.rise a ha k hki).2
                          have bC := (HR7.out.hist.rise a ha k hki).1
                          have eT : D6 T k = cnt4 k := by rw [HDT.out]
                          have ev : ((65536 * (T - a) / S : Nat) : Int) = 65536 * ((T : Int) - (a : Int)) / (S : Int) := by
                            rw [Int.natCast_ediv, Int.natCast_mul, Int.natCast_sub ha]
                            rfl
                          rw [ev] at ask
                          have v0 : 0 ≤ 65536 * ((T : Int) - (a : Int)) / (S : Int) := Int.ediv_nonneg (by omega) (by omega)
                          have v1 : 65536 * ((T : Int) - (a : Int)) / (S : Int) ≤ 65536 * ((T : Int) - (a : Int)) := Int.ediv_le_self _ (by omega)
                          have fin : ¬ wrap64 ((D6 T k : Int) - (D6 a k : Int)) < wrap64 (wrap64 (65536 * ((T : Int) - (a : Int)) / (S : Int) - (i : Int)) - 3) := by
                            have hl := Hlen.out
                            have hT2 := HT.out
                            rw [eT, w64 ((cnt4 k : Int) - (D6 a k : Int)) (by omega) (by omega), w64 (65536 * ((T : Int) - (a : Int)) / (S : Int) - (i : Int)) (by omega) (by omega), w64 _ (by omega) (by omega)]
                            omega
                          clear ev v0 v1 ask bT bA bC eT
                          go_upto_region 38 with fail
                          go_quiet (fail)
                          go_wp2
                          go_roundw
                          case rel => exact ⟨a + 1, by go_num, by omega, HR7.out.below (below_drewN (Below.refl _ _) _), below_drewN Hb7.out _⟩
                          case measure => simp [intOf]; omega
                        · have s0 : ¬ (0 : Int) < (S : Int) := by omega
                          go_wp2
                          go_roundw
                          case rel => exact ⟨k + 1, by go_num, by omega, HR7.out, Hb7.out⟩
                          case measure => simp [intOf]; omega
                      · have aT : ¬ (a : Int) < (T : Int) := by omega
                        go_wp2
                        go_roundw
                        case rel => exact ⟨k + 1, by go_num, by omega, HR7.out, Hb7.out⟩
                        case measure => simp [intOf]; omega
                  · obtain rfl : k = i := by omega
                    have k1 : ¬ (k : Int) < (k : Int) := by omega
                    clear hk hki
                    go_wp2
                    go_roundw
                    case rel => exact ⟨T + 1, T, F4, c4, cnt4, C6, D6, by go_num, rfl, by omega, HR6.out.wider (by have := HT.out; have := Hlen.out; omega), Hae5.out, Hb6.out⟩
                    case measure => simp [intOf]; omega
        · go_wp2_with (go_at_call 8; refine (awake_any _).mono ?_; rintro e w12 ⟨rfl, hb⟩; have B12 := Lib.hid (Hb3.out.trans (hb.mono (Hz.out _ Hb3.out))); clear hb)
          go_ret
          exact ⟨rfl, HF.out _ B12.out⟩
set_option maxRecDepth 100000 in
theorem walk (A : Option Addr) (m cA : Nat) (l : List Pol) (pk : Int) (P : Option Addr) (nm cP : Nat) (bs : List UInt8) (tk : Int) (w : World) (hm : l.length = m) (hmc : m ≤ cA) (hcA : cA ≤ maxLen) (hl : PolsAt w A l) (hpk : (Lit.int .u8 pk).wf = true) (hn : bs.length = nm) (hnc : nm ≤ cP) (hcP : cP ≤ maxLen) (hs : Seen w P (bytesV bs)) (htk : (Lit.int .u8 tk).wf = true) :
    Calls Try.prog 4 #[.slice A m cA, .int .u8 pk, .slice P nm cP, .int .u8 tk] w fun e w' => e = .returned (.bool true) ∧ Below w.heap.size w w' := by
  simp [Lit.wf, IntKind.min, IntKind.max, IntKind.bits, IntKind.signed] at hpk htk
  have hp : 0 ≤ pk ∧ pk ≤ 255 := by omega
  have ht : 0 ≤ tk ∧ tk ≤ 255 := by omega
  clear hpk htk
  by_cases h1 : m ≤ 6
  · by_cases h2 : nm ≤ 80
    · by_cases had : admitsP (1 + pk % 8) l = true
      · exact walkIn A m cA l pk P nm cP bs tk w hm h1 hl hp hn h2 hs ht had
      · have g1 : ¬ (6 : Int) < (m : Int) := by omega
        have g2 : ¬ (80 : Int) < (nm : Int) := by omega
        have KA := Lib.hid (RAdmits_any (1 + pk % 8) A m cA l w hm (by unfold maxLen; omega) hl (by unfold In64; omega))
        rw [Bool.not_eq_true] at had
        rw [had] at KA
        obtain ⟨p1, p2⟩ := hp
        clear hm hl hn hs ht had
        go_enter Try.func4, Try.ntmps4
        go_wp2_with (first
          | (go_at_call 8; refine (awake_any w2).mono ?_; rintro e w1 ⟨rfl, hb⟩; have Hb := Lib.hid (Hb2.out.trans (hb.mono Hb2.out.size)); clear hb)
          | (go_at_call 16; refine KA.out.mono ?_; rintro e w2 ⟨rfl, hb2⟩; have Hb2 := Lib.hid hb2; clear hb2))
        go_ret
        exact ⟨rfl, Hb.out⟩
    · have g1 : ¬ (6 : Int) < (m : Int) := by omega
      have g2 : (80 : Int) < (nm : Int) := by omega
      obtain ⟨p1, p2⟩ := hp
      clear hm hl hn hs ht
      go_enter Try.func4, Try.ntmps4
      go_wp2_with (go_at_call 8; refine (awake_any w).mono ?_; rintro e w1 ⟨rfl, hb⟩; have Hb := Lib.hid hb; clear hb)
      go_ret
      exact ⟨rfl, Hb.out⟩
  · have g1 : (6 : Int) < (m : Int) := by omega
    obtain ⟨p1, p2⟩ := hp
    clear hm hl hn hs ht
    go_enter Try.func4, Try.ntmps4
    go_wp2_with (go_at_call 8; refine (awake_any w).mono ?_; rintro e w1 ⟨rfl, hb⟩; have Hb := Lib.hid hb; clear hb)
    go_ret
    exact ⟨rfl, Hb.out⟩

/-! ### THE ROW -/
theorem own : ownKnob Try.prog.godebug = none := by kernel_rfl

set_option maxRecDepth 100000 in
theorem lifted (os : Os) (started : os.Started) (H : Type) (enc : TypeId × Value → H) :
    ReturnsInHanded {} Try.checked os 4 .any (Rows.schedReserveSpec.pre6 enc Try.prog Try.f4 Rows.schedReserveRow.domain false) (Rows.schedReserveSpec.post enc Try.prog Try.f4 false true false false) := by
  refine returnsInHanded_of_change (C := Try.checked) own started (by kernel_rfl) Try.func4
    (ChangeSpec.witness6 (enc := enc) (C := Try.checked) false ⟨#[], #[.slice none 0 0, .int .u8 0, .slice none 0 0, .int .u8 0], []⟩ 8 (by kernel_rfl) (by kernel_rfl) (by kernel_rfl) (by kernel_rfl)) ?_
  intro W base args ds gs before hval0 hW hcnd _
  have hval : ∀ (j : Nat) t v, Try.f4.params[j]? = some t → args[j]? = some v → Value.okWide Try.prog W .any base t v := hval0
  have hW' := hW
  obtain ⟨p, q, hA0, hV, rfl, hfz, hnd⟩ := hW
  have hA : DataW.TrodAll enc Try.prog W 0 (fun _ => true) true Try.f4.params.toList args.toList ds p := hA0
  rw [Try.params4] at hA hval
  obtain ⟨v0, vs0, d0, ds0, p0, q0, hargs, rfl, rfl, h0, r0⟩ := trodAll_cons hA
  obtain ⟨v1, vs1, d1, ds1, p1, q1, rfl, rfl, rfl, h1, r1⟩ := trodAll_cons r0
  obtain ⟨v2, vs2, d2, ds2, p2, q2, rfl, rfl, rfl, h2, r2⟩ := trodAll_cons r1
  obtain ⟨v3, vs3, d3, ds3, p3, q3, rfl, rfl, rfl, h3, r3⟩ := trodAll_cons r2
  obtain ⟨rfl, rfl, rfl⟩ := trodAll_nil r3
  obtain rfl : args = #[v0, v1, v2, v3] := by cases args; simp_all
  obtain ⟨rfl, rfl⟩ := trodVars_none hV
  obtain ⟨A0, n0, c0, fs0, rfl, hn0, hnc0, hcm0, hf0⟩ := open_pols Try.underlying22 Try.underlying29 rfl rfl rfl rfl rfl rfl rfl rfl Try.underlying3 Try.underlying3 Try.underlying3 Try.underlying3 (by kernel_rfl) (by kernel_rfl) (by kernel_rfl) (by kernel_rfl) (by kernel_rfl) (hval 0 22 v0 rfl rfl) h0
  obtain ⟨a1, rfl, rfl, rfl, w1⟩ := open_int Try.underlying5 (hval 1 5 v1 rfl rfl) h1
  obtain ⟨A2, n2, c2, bs2, rfl, hn2, hnc2, hcm2, hsee2⟩ := open_bytes Try.underlying23 Try.underlying5 (by kernel_rfl) (hval 2 23 v2 rfl rfl) h2
  obtain ⟨a3, rfl, rfl, rfl, w3⟩ := open_int Try.underlying5 (hval 3 5 v3 rfl rfl) h3
  refine (walk A0 n0 c0 fs0 a1 A2 n2 c2 bs2 a3 W hn0 hnc0 hcm0 hf0 w1 hn2 hnc2 hcm2 hsee2 w3).mono fun e W' ⟨he, hg⟩ => ?_
  subst he
  exact ⟨_, rfl, law_post hW' rfl (by kernel_rfl) (by kernel_rfl) (by kernel_rfl) Try.underlying4 rfl rfl rfl hg⟩

theorem over : Rows.schedReserveRow.holds Try.pinned (OpenSpec.ofChange Rows.schedReserveSpec) :=
  OpenClaim.holds_of_wide 4 Try.f4 rfl rfl rfl rfl rfl rfl rfl ⟨rfl, rfl, rfl, rfl, rfl⟩ rfl rfl rfl rfl rfl (by kernel_rfl) Try.func4 (by kernel_rfl)
    (of_decide_eq_true (by kernel_rfl)) (by unfold Func.isWrapper; first | (rw [if_pos (by decide +kernel)]; kernel_rfl) | (rw [if_neg (by decide +kernel)]; exact ⟨rfl, rfl⟩))
    (fun os started H enc _ => lifted os started H enc)

theorem proved : Rows.SchedReserveSaid :=
  over
#print axioms proved

end Go.Proofs.Ytbfjakchgmdldaa.SchedReserve
