/-
  SchedLimit: of a flow that is always up, beside any others, at most as many are picked in any span of ticks as its policy says, and Burst, and one (of 6 flows, 60 ticks, 12 picks each); it holds for every input, and the arguments stay as they were. No condition.
-/
import Derived.Test.YtbfjakchgmdldaaSchLim
import Derived.Test.YtbfjakchgmdldaaLaw
import Derived.Test.YtbfjakchgmdldaaPolOpen
import Derived.Test.YtbfjakchgmdldaaPolR
import Derived.Test.YtbfjakchgmdldaaRows
import Derived.Test.YtbfjakchgmdldaaChecked
namespace Go.Proofs.Ytbfjakchgmdldaa.SchedLimit
open Go.ChangeShapes Go.WideShapes Go.ChangeAt Go.RowKit
set_option linter.unusedVariables false

attribute [local go_sem ↓] ldPol_eq
theorem byte_mod (y : UInt8) (d : Nat) : (wrap64 (y.toNat : Int)).tmod (d : Int) = ((y.toNat % d : Nat) : Int) := by
  have h1 := y.toNat_lt
  have e : wrap64 (y.toNat : Int) = (y.toNat : Int) := by unfold wrap64; omega
  rw [e]
  rfl
theorem w64 (n : Int) (h1 : -9223372036854775808 ≤ n) (h2 : n ≤ 9223372036854775807) : wrap64 n = n := by
  unfold wrap64
  omega
set_option maxRecDepth 100000 in
set_option maxHeartbeats 8000000 in
theorem walkIn (A : Option Addr) (m cA : Nat) (l : List Pol) (P : Option Addr) (n cP : Nat) (bs : List UInt8) (w : World) (hm : l.length = m) (hm6 : m ≤ 6) (hl : PolsAt w A l) (hn : bs.length = n) (hle : n ≤ 60) (hs : Seen w P (bytesV bs)) :
    Calls Try.prog 3 #[.slice A m cA, .slice P n cP] w fun e w' => e = .returned (.bool true) ∧ Below w.heap.size w w' := by
  obtain ⟨Z, hZ⟩ : ∃ Z, w.heap.size = Z := ⟨_, rfl⟩
  have KN := Lib.hid (New_any w)
  unfold NewRet at KN
  rw [hZ] at KN
  have HZ := Lib.hid hZ
  have Hn := Lib.hid hn; have Hm := Lib.hid hm
  have g1 : ¬ (6 : Int) < (m : Int) := by omega
  have g2 : ¬ (60 : Int) < (n : Int) := by omega
  have hz : ∀ (W : World), Below Z w W → Z ≤ W.heap.size := fun _ h => by have := h.size; omega
  have Hz := Lib.hid hz
  have HS := Lib.hid (fun (W : World) (hb : Below Z w W) => show Seen W P (bytesV bs) from hs.below (by rw [hZ]; exact hb))
  have HL := Lib.hid (fun (W : World) (hb : Below Z w W) => show PolsAt W A l from hl.below (by rw [hZ]; exact hb))
  clear hZ hn hs hz hl hm
  go_enter Try.func3, Try.ntmps3
  go_upto_region 6 with (go_at_call 9; refine KN.out.mono ?_; rintro e w1 ⟨rfl, hA, hb1⟩; have HA := Lib.hid hA; have Hb1 := Lib.hid hb1; clear hA hb1)
  clear KN g1 g2
  go_wp2
  go_loopw [6] (fun iv wr => ∃ (i : Nat) (F : Int → Fl), iv = .int .i64 (i : Int) ∧ i ≤ m ∧ SchAt wr Z (Z + 1) (ksN i) F ∧ UpF l i F ∧ Below Z w wr) (fun iv _ => m - (intOf iv).toNat)
  case atStart => exact ⟨0, _, rfl, by omega, HA.out, UpF.nil _ _, Hb1.out⟩
  case round =>
    obtain ⟨i, F, rfl, hi, hs, hu, hb⟩ := hrel
    have Hs2 := Lib.hid hs; have Hu2 := Lib.hid hu; have Hb2 := Lib.hid hb
    clear hs hu hb HA Hb1
    have i0 : (0 : Int) ≤ (i : Int) := by omega
    by_cases hlt : i < m
    · have i1 : (i : Int) < (m : Int) := by omega
      obtain ⟨ga, o, p, rfl, hp, hat⟩ := (HL.out _ Hb2.out).get (k := i) (by rw [Hm.out]; exact hlt)
      have wi := wrap_in ((i : Int) + 1) (by omega) (by omega)
      have KR := Lib.hid (RRight_any p wr)
      have Hat := Lib.hid hat
      have hld := ldPol_run hat
      obtain ⟨r, hr⟩ : ∃ r, rightP p = r := ⟨_, rfl⟩
      rw [hr] at KR
      cases r with
      | false =>
        clear hat hp hr
        go_wp2_with (first
          | (go_at_call 8; refine (awake_any w3).mono ?_; rintro e w4 ⟨rfl, hb4⟩; have B4 := Lib.hid (Hb3.out.trans (hb4.mono (Hz.out _ Hb3.out))); clear hb4)
          | (go_at_call 10; refine KR.out.mono ?_; rintro e w3 ⟨rfl, hb3⟩; have Hb3 := Lib.hid (Hb2.out.trans (hb3.mono (Hz.out _ Hb2.out))); clear hb3))
        go_ret
        refine ⟨rfl, ?_⟩
        rw [HZ.out]
        exact B4.out
      | true =>
        have Hp := Lib.hid hp; have Hr := Lib.hid hr
        clear hat hp hr
        go_wp2_with (first
          | (go_at_call 12; refine (up_fill (l := l) (by omega) Hu2.out HA4.out (Hz.out _ Hb4.out)).mono ?_; rintro e w5 ⟨rfl, x, hx, hA, hk⟩; have HA5 := Lib.hid hA; have Hx5 := Lib.hid hx; have Hb5 := Lib.hid (Hb4.out.trans (hk.below (Hz.out _ Hb4.out))); clear hA hx hk)
          | (go_at_call 11; refine (up_set (l := l) (by omega) HA3.out Hr.out Hat.out.2.2.2.2 (Hz.out _ Hb3.out)).mono ?_; rintro e w4 ⟨rfl, hA, hk⟩; have HA4 := Lib.hid hA; have Hb4 := Lib.hid (Hb3.out.trans (hk.below (Hz.out _ Hb3.out))); clear hA hk)
          | (go_at_call 10; refine KR.out.mono ?_; rintro e w3 ⟨rfl, hb3⟩; have Hb3 := Lib.hid (Hb2.out.trans (hb3.mono (Hz.out _ Hb2.out))); have hld3 := ldPol_run (Hat.out.below hb3); have HA3 := Lib.hid (Hs2.out.below hb3); clear hb3 hld))
        go_roundw
        case rel => exact ⟨i + 1, _, by go_num, by omega, HA5.out, Hu2.out.more Hp.out Hr.out Hx5.out, Hb5.out⟩
        case measure => simp [intOf]; omega
    · obtain rfl : i = m := by omega
      have i1 : ¬ (i : Int) < (i : Int) := by omega
      clear hi hlt i0
      go_upto_region 12 with fail
      obtain ⟨g, hg⟩ : ∃ g, wr.heap.size = g := ⟨_, rfl⟩
      have hw6 := WhenAt.new (w := wr) (Hz.out _ Hb2.out)
      have hbx := below_box wr (.cells #[.slice none 0 0, .slice none 0 0, .slice none 0 0, .slice none 0 0, .slice none 0 0, .slice none 0 0] 34)
      change Code.wp _ _ _ _ (wr.alloc (.cells #[.slice none 0 0, .slice none 0 0, .slice none 0 0, .slice none 0 0, .slice none 0 0, .slice none 0 0] 34))
      generalize wr.alloc (.cells #[.slice none 0 0, .slice none 0 0, .slice none 0 0, .slice none 0 0, .slice none 0 0, .slice none 0 0] 34) = w6 at hw6 hbx ⊢
      have HA6 := Lib.hid (Hs2.out.below hbx)
      have Hb6 := Lib.hid (Hb2.out.trans (hbx.mono (Hz.out _ Hb2.out)))
      rw [hg] at hw6 ⊢
      have Hw6 := Lib.hid hw6
      have Hg := Lib.hid (show Z ≤ g from hg ▸ Hz.out _ Hb2.out)
      clear hw6 hbx hg i1
      go_wp2
      go_loopw [8] (fun tv wr => ∃ (t : Nat) (F : Int → Fl) (ts : Nat → List Int), tv = .int .i64 (t : Int) ∧ t ≤ n ∧ SchAt wr Z (Z + 1) (ksN i) F ∧ UpF l i F ∧ LimF i t ts F ∧ WhenAt wr Z g ts ∧ (∀ k, (ts k).length ≤ 12 * t) ∧ Below Z w wr) (fun tv _ => n - (intOf tv).toNat)
      case atStart => exact ⟨0, F, fun _ => [], rfl, by omega, HA6.out, Hu2.out, LimF.start _ _, Hw6.out, fun k => by simp, Hb6.out⟩
      case round =>
        obtain ⟨t, F3, ts3, rfl, ht, hs, hu, hlim, hw, hlen, hb⟩ := hrel
        have Hs3 := Lib.hid hs; have Hu3 := Lib.hid hu; have Hb3 := Lib.hid hb; have Hlim3 := Lib.hid hlim; have Hw3 := Lib.hid hw; have Hlen3 := Lib.hid hlen
        clear hs hu hb hlim hw hlen HA6 Hb6 Hw6 Hs2 Hu2 Hb2
        have t0 : (0 : Int) ≤ (t : Int) := by omega
        by_cases hlt : t < n
        · have t1 : (t : Int) < (n : Int) := by omega
          have wt := wrap_in ((t : Int) + 1) (by omega) (by omega)
          obtain ⟨gp, op, x, rfl, hx, hxt, hca⟩ := (HS.out w (Below.refl _ _)).byteAt (j := t) (by rw [Hn.out]; exact hlt)
          have HC := Lib.hid (fun (W : World) (hb : Below Z w W) => (show Below w.heap.size w W by rw [HZ.out]; exact hb).cell (block_lt_of_cell hca) |>.trans hca)
          clear hca hx hxt
          have hca := HC.out _ Hb3.out
          have hcv := byte_mod x 13
          obtain ⟨c, hc, hc12⟩ : ∃ c, x.toNat % 13 = c ∧ c ≤ 12 := ⟨_, rfl, by have := Nat.mod_lt x.toNat (show 13 > 0 by omega); omega⟩
          rw [hc] at hcv
          have Hcv := Lib.hid hcv
          clear hcv hc
          go_wp2
          go_loopw [9] (fun jv wq => ∃ (j : Nat) (F : Int → Fl) (ts : Nat → List Int), jv = .int .i64 (j : Int) ∧ j ≤ c ∧ SchAt wq Z (Z + 1) (ksN i) F ∧ UpF l i F ∧ LimF i t ts F ∧ WhenAt wq Z g ts ∧ (∀ k, (ts k).length ≤ 12 * t + j) ∧ Below Z w wq) (fun jv _ => c - (intOf jv).toNat)
          case atStart => exact ⟨0, F3, ts3, rfl, by omega, Hs3.out, Hu3.out, Hlim3.out, Hw3.out, fun k => by have := Hlen3.out k; omega, Hb3.out⟩
          case round =>
            obtain ⟨j, F4, ts4, rfl, hj, hs, hu, hlim, hw, hlen, hb⟩ := hrel
            have Hs4 := Lib.hid hs; have Hu4 := Lib.hid hu; have Hb4 := Lib.hid hb; have Hlim4 := Lib.hid hlim; have Hw4 := Lib.hid hw; have Hlen4 := Lib.hid hlen
            have hca := HC.out _ hb
            clear hs hu hb hlim hw hlen Hs3 Hu3 Hb3 Hlim3 Hw3 Hlen3
            have j0 : (0 : Int) ≤ (j : Int) := by omega
            have hcv : (wrap64 (x.toNat : Int)).tmod 13 = (c : Int) := Hcv.out
            by_cases hjc : j < c
            · have j1 : (j : Int) < (c : Int) := by omega
              have wj := wrap_in ((j : Int) + 1) (by omega) (by omega)
              go_upto_region 19 with (go_at_call 13; refine (up_pick Hs4.out Hu4.out hm6 (by unfold In64; omega) (Hz.out _ Hb4.out)).mono ?_; rintro e w5 ⟨k, ph, it, ok, rfl, hk5, h5⟩; have Hb5 := Lib.hid (Hb4.out.trans (hk5.below (Hz.out _ Hb4.out))); have Hw5 := Lib.hid (Hw4.out.kept hk5); have H5 := Lib.hid h5; clear hk5 h5 hca hcv)
              have hbb := below_box w5 (.cells #[.int .i64 it.na, .int .i64 it.de, .int .i64 it.rh] 36)
              change Code.wp _ _ _ _ (w5.alloc (.cells #[.int .i64 it.na, .int .i64 it.de, .int .i64 it.rh] 36))
              generalize w5.alloc (.cells #[.int .i64 it.na, .int .i64 it.de, .int .i64 it.rh] 36) = w6 at hbb ⊢
              have Hb6 := Lib.hid (Hb5.out.trans (hbb.mono (Hz.out _ Hb5.out)))
              have Hw6 := Lib.hid (Hw5.out.below hbb)
              have h5 := H5.out
              rcases h5 with ⟨rfl, hs5, _⟩ | ⟨rfl, q, f, rfl, hq, hN, hp, hc5, hq2, hs5⟩
              · have Hs6 := Lib.hid (hs5.below hbb)
                clear hs5 hbb H5
                go_wp2
                go_roundw
                case rel => exact ⟨j + 1, F4, ts4, by go_num, by omega, Hs6.out, Hu4.out, Hlim4.out, Hw6.out, fun k => by have := Hlen4.out k; omega, Hb6.out⟩
                case measure => simp [intOf]; omega
              · have Hs6 := Lib.hid (hs5.below hbb)
                have Hq := Lib.hid hq; have HN := Lib.hid hN; have Hp := Lib.hid hp; have Hc5 := Lib.hid hc5; have Hq2 := Lib.hid hq2
                clear hs5 hbb H5 hN hp hc5 hq2
                obtain ⟨A6, c6, cw, cz, own6⟩ := Hw6.out.get (k := q) (by omega)
                have Own6 := Lib.hid own6
                have Cw := Lib.hid cw
                clear own6
                have q0 : (0 : Int) ≤ (q : Int) := by omega
                have q6 : (q : Int) < 6 := by omega
                have hby := below_box w6 (.cells #[.int .i64 (t : Int)] 3)
                obtain ⟨w7, hw7⟩ : ∃ W, w6.alloc (.cells #[.int .i64 (t : Int)] 3) = W := ⟨_, rfl⟩
                have Hsee7 := Lib.hid (show Seen w7 (some ⟨w6.heap.size, 0, none⟩) [.int .i64 (t : Int)] by rw [← hw7]; exact Seen.of_cells (heap_alloc_new w6 _))
                rw [hw7] at hby
                have Hby := Lib.hid hby
                have Own7 := Lib.hid (own_belowM Own6.out hby)
                have HZ7 := Lib.hid (Nat.le_trans (Hz.out _ Hb6.out) hby.size)
                clear hby
                have hlen := Hlen4.out q
                go_upto_region 21 with (at_builtin; refine wpList_app2 rfl (.tmp 87) (.tmp 89) _ rfl 3 _ 8 Try.underlying33 int_info rfl Z A6 (ts4 q).length c6 (numsV (ts4 q)) rfl Own7.out (some ⟨w6.heap.size, 0, none⟩) 1 1 [.int .i64 (t : Int)] rfl rfl Hsee7.out (fun u hu => by simp at hu; subst hu; rfl) (by unfold maxLen; omega) (by omega) HZ7.out ?_; intro A8 c8 w8 hown8 hg8 hbk8; obtain ⟨x1, x2, x3, x4, cw8, cz8⟩ := Hw6.out.more (by omega) Cw.out Hby.out hown8 hg8 hbk8; have X1 := Lib.hid x1; have X2 := Lib.hid x2; have X3 := Lib.hid x3; have X4 := Lib.hid x4; clear hown8 hg8 hbk8 x1 x2 x3 x4)
                have Hs9 := Lib.hid (Hs6.out.turned X2.out fun k hk o ho => X3.out k o hk ho)
                have Hb9 := Lib.hid (Hb6.out.trans (X2.out.below X4.out (Hz.out _ Hb6.out)))
                clear hlen cw8 cz8 cw cz
                go_wp2_with (go_at_call 14; refine (up_push Hs9.out Hq.out hm6 Hq2.out (by unfold In64; omega) (Hz.out _ Hb9.out)).mono ?_; rintro e w10 ⟨rfl, hA, hk⟩; have HA10 := Lib.hid hA; have Hw10 := Lib.hid (X1.out.kept hk); have Hb10 := Lib.hid (Hb9.out.trans (hk.below (Hz.out _ Hb9.out))); clear hA hk)
                go_roundw
                case rel => exact ⟨j + 1, _, _, by go_num, by omega, HA10.out, Hu4.out.again Hq.out Hp.out Hc5.out Hq2.out, Hlim4.out.again Hu4.out Hq.out HN.out t0 (by omega) Hp.out Hc5.out, Hw10.out, fun k => by have := Hlen4.out k; have h2 := Hlen4.out q; unfold tsMore; split <;> simp <;> omega, Hb10.out⟩
                case measure => simp [intOf]; omega
            · obtain rfl : j = c := by omega
              have j1 : ¬ (j : Int) < (j : Int) := by omega
              clear hj hjc
              go_wp2
              go_roundw
              case rel => exact ⟨t + 1, F4, ts4, by go_num, by omega, Hs4.out, Hu4.out, Hlim4.out.later (by omega), Hw4.out, fun k => by have := Hlen4.out k; omega, Hb4.out⟩
              case measure => simp [intOf]; omega
        · obtain rfl : t = n := by omega
          have t1 : ¬ (t : Int) < (t : Int) := by omega
          clear ht hlt
          have Hpol := Lib.hid Hu3.out.pol
          clear Hs3 Hu3 t0
          go_wp2
          go_loopw [14] (fun iv wr => ∃ (k : Nat), iv = .int .i64 (k : Int) ∧ k ≤ i ∧ WhenAt wr Z g ts3 ∧ Below Z w wr) (fun iv _ => i - (intOf iv).toNat)
          case atStart => exact ⟨0, rfl, by omega, Hw3.out, Hb3.out⟩
          case round =>
            obtain ⟨k, rfl, hk, hw, hb⟩ := hrel
            have Hw4 := Lib.hid hw; have Hb4 := Lib.hid hb
            clear hw hb Hw3 Hb3 t1
            have k0 : (0 : Int) ≤ (k : Int) := by omega
            by_cases hlt : k < i
            · have k1 : (k : Int) < (i : Int) := by omega
              have k6 : (k : Int) < 6 := by omega
              have wk := wrap_in ((k : Int) + 1) (by omega) (by omega)
              obtain ⟨ga, o, p, rfl, hp, hat⟩ := (HL.out w (Below.refl _ _)).get (k := k) (by rw [Hm.out]; exact hlt)
              have HAt := Lib.hid (fun (W : World) (hb : Below Z w W) => show PolAt W ga (o + k * 4) p from hat.below (by rw [HZ.out]; exact hb))
              obtain ⟨hpe, hr⟩ := Hpol.out k hlt
              have e2 : p = (F3 k).p := by rw [hp] at hpe; injection hpe
              rw [← e2] at hr
              obtain ⟨r1, r2, r3, r4, r5⟩ := (rightP_iff _).1 hr
              have E2 := Lib.hid e2
              have c2 := (HAt.out wr Hb4.out).2.2.1
              clear hp hat hpe hr e2 r1 r2 r5
              obtain ⟨W, hW⟩ : ∃ x, wideF p.li = x := ⟨_, rfl⟩
              have KW := Lib.hid (refWide_any p.li wr)
              rw [hW] at KW
              have HW := Lib.hid hW
              have hW0 : (p.li = 0 ∧ W = 0) ∨ (p.li ≠ 0 ∧ 63 ≤ W ∧ W ≤ 65536000) := by
                by_cases e : p.li = 0
                · exact .inl ⟨e, by rw [← hW, e]; decide⟩
                · exact .inr ⟨e, by rw [← hW]; exact wideF_bd (by omega) r3.2⟩
              clear hW
              go_wp2_with (go_at_call 15; refine KW.out.mono ?_; rintro e w5 ⟨rfl, rfl⟩)
              have Hlen := Hlen3.out k
              obtain ⟨L, hL⟩ : ∃ L, (ts3 k).length = L := ⟨_, rfl⟩
              rw [hL] at Hlen
              have HLn := Lib.hid hL
              have Hge := Lib.hid (fun (W : World) (h : WhenAt W Z g ts3) => show ∃ A c, W.cell? ⟨g, k, none⟩ = some (.slice A L c) ∧ Seen W A (numsV (ts3 k)) by have := h.seen (k := k) (by omega); rw [hL] at this; exact this)
              clear hL c2 KW
              go_loopw [16] (fun av wr => ∃ (a : Nat), av = .int .i64 (a : Int) ∧ a ≤ L ∧ WhenAt wr Z g ts3 ∧ Below Z w wr) (fun av _ => L - (intOf av).toNat)
              case atStart => exact ⟨0, rfl, by omega, Hw4.out, Hb4.out⟩
              case round =>
                obtain ⟨a, rfl, ha, hw, hb⟩ := hrel
                have Hw5 := Lib.hid hw; have Hb5 := Lib.hid hb
                obtain ⟨A5, c5, cs5, -⟩ := Hge.out _ hw
                clear hw hb Hw4 Hb4
                have a0 : (0 : Int) ≤ (a : Int) := by omega
                by_cases halt : a < L
                · have a1 : (a : Int) < (L : Int) := by omega
                  have wa := wrap_in ((a : Int) + 1) (by omega) (by omega)
                  rcases hW0 with ⟨hli, rfl⟩ | ⟨hli, hw1, hw2⟩
                  · have n0 : ¬ (0 : Int) < 0 := by omega
                    go_wp2
                    go_roundw
                    case rel => exact ⟨k + 1, by go_num, by omega, Hw5.out, Hb5.out⟩
                    case measure => simp [intOf]; omega
                  · have n0 : (0 : Int) < W := by omega
                    have n1 : ¬ W = 0 := by omega
                    go_wp2
                    clear cs5
                    go_loopw [17] (fun bv wr => ∃ (b : Nat), bv = .int .i64 (b : Int) ∧ a ≤ b ∧ b ≤ L ∧ WhenAt wr Z g ts3 ∧ Below Z w wr) (fun bv _ => L - (intOf bv).toNat)
                    case atStart => exact ⟨a, rfl, by omega, by omega, Hw5.out, Hb5.out⟩
                    case round =>
                      obtain ⟨b, rfl, hab, hb2, hw, hb⟩ := hrel
                      have Hw6 := Lib.hid hw; have Hb6 := Lib.hid hb
                      obtain ⟨A6, c6, cs6, hsee⟩ := Hge.out _ hw
                      have cbu := (HAt.out _ hb).2.2.2.1
                      clear hw hb Hw5 Hb5
                      have b0 : (0 : Int) ≤ (b : Int) := by omega
                      by_cases hblt : b < L
                      · have b1 : (b : Int) < (L : Int) := by omega
                        have wb := wrap_in ((b : Int) + 1) (by omega) (by omega)
                        obtain ⟨gr, or, x, rfl, hx, cx⟩ := hsee.num (j := a) (by rw [HLn.out]; exact halt)
                        obtain ⟨gr', or', y, e9, hy, cy⟩ := hsee.num (j := b) (by rw [HLn.out]; exact hblt)
                        injection e9 with e9
                        injection e9 with e9 e10
                        subst e9; subst e10
                        obtain ⟨q1, q2, q3, q4⟩ := Hlim3.out.asks hlt (by rw [← E2.out]; exact hli) hab hx hy
                        rw [← E2.out, HW.out] at q1
                        clear hx hy hsee
                        have z6 : (b : Int) - (a : Int) + 1 ≤ wrap64 (wrap64 (65536 * (y - x) / W + p.bu) + 1) := by
                          have v0 : 0 ≤ 65536 * (y - x) / W := Int.ediv_nonneg (by omega) (by omega)
                          have v1 : 65536 * (y - x) / W ≤ 65536 * (y - x) := Int.ediv_le_self _ (by omega)
                          rw [w64 (65536 * (y - x) / W + p.bu) (by omega) (by omega), w64 _ (by omega) (by omega)]
                          exact q1
                        have s1 : 0 ≤ y - x ∧ y - x ≤ 60 := by omega
                        clear q1
                        go_upto_region 33 with fail
                        go_quiet (fail)
                        go_wp2
                        go_roundw
                        case rel => exact ⟨b + 1, by go_num, by omega, by omega, Hw6.out.below (below_drewN (Below.refl _ _) _), below_drewN Hb6.out _⟩
                        case measure => simp [intOf]; omega
                      · obtain rfl : b = L := by omega
                        have b1 : ¬ (b : Int) < (b : Int) := by omega
                        clear hb2 hblt
                        go_wp2
                        go_roundw
                        case rel => exact ⟨a + 1, by go_num, by omega, Hw6.out, Hb6.out⟩
                        case measure => simp [intOf]; omega
                · obtain rfl : a = L := by omega
                  have a1 : ¬ (a : Int) < (a : Int) := by omega
                  clear ha halt
                  go_wp2
                  go_roundw
                  case rel => exact ⟨k + 1, by go_num, by omega, Hw5.out, Hb5.out⟩
                  case measure => simp [intOf]; omega
            · obtain rfl : k = i := by omega
              have k1 : ¬ (k : Int) < (k : Int) := by omega
              clear hk hlt
              go_wp2_with (go_at_call 8; refine (awake_any wr).mono ?_; rintro e w10 ⟨rfl, hb⟩; have B10 := Lib.hid (Hb4.out.trans (hb.mono (Hz.out _ Hb4.out))); clear hb)
              go_ret
              refine ⟨rfl, ?_⟩
              rw [HZ.out]
              exact B10.out
set_option maxRecDepth 100000 in
theorem walk (A : Option Addr) (m cA : Nat) (l : List Pol) (P : Option Addr) (n cP : Nat) (bs : List UInt8) (w : World) (hm : l.length = m) (hmc : m ≤ cA) (hcA : cA ≤ maxLen) (hl : PolsAt w A l) (hn : bs.length = n) (hnc : n ≤ cP) (hcP : cP ≤ maxLen) (hs : Seen w P (bytesV bs)) :
    Calls Try.prog 3 #[.slice A m cA, .slice P n cP] w fun e w' => e = .returned (.bool true) ∧ Below w.heap.size w w' := by
  by_cases h1 : m ≤ 6
  · by_cases h2 : n ≤ 60
    · exact walkIn A m cA l P n cP bs w hm h1 hl hn h2 hs
    · have g1 : ¬ (6 : Int) < (m : Int) := by omega
      have g2 : (60 : Int) < (n : Int) := by omega
      clear hm hl hn hs
      go_enter Try.func3, Try.ntmps3
      go_wp2_with (go_at_call 8; refine (awake_any w).mono ?_; rintro e w1 ⟨rfl, hb⟩; have Hb := Lib.hid hb; clear hb)
      go_ret
      exact ⟨rfl, Hb.out⟩
  · have g1 : (6 : Int) < (m : Int) := by omega
    clear hm hl hn hs
    go_enter Try.func3, Try.ntmps3
    go_wp2_with (go_at_call 8; refine (awake_any w).mono ?_; rintro e w1 ⟨rfl, hb⟩; have Hb := Lib.hid hb; clear hb)
    go_ret
    exact ⟨rfl, Hb.out⟩

/-! ### THE ROW -/
theorem own : ownKnob Try.prog.godebug = none := by kernel_rfl

set_option maxRecDepth 100000 in
theorem lifted (os : Os) (started : os.Started) (H : Type) (enc : TypeId × Value → H) :
    ReturnsInHanded {} Try.checked os 3 .any (Rows.schedLimitSpec.pre6 enc Try.prog Try.f3 Rows.schedLimitRow.domain false) (Rows.schedLimitSpec.post enc Try.prog Try.f3 false true false false) := by
  refine returnsInHanded_of_change (C := Try.checked) own started (by kernel_rfl) Try.func3
    (ChangeSpec.witness6 (enc := enc) (C := Try.checked) false ⟨#[], #[.slice none 0 0, .slice none 0 0], []⟩ 8 (by kernel_rfl) (by kernel_rfl) (by kernel_rfl) (by kernel_rfl)) ?_
  intro W base args ds gs before hval0 hW hcnd _
  have hval : ∀ (j : Nat) t v, Try.f3.params[j]? = some t → args[j]? = some v → Value.okWide Try.prog W .any base t v := hval0
  have hW' := hW
  obtain ⟨p, q, hA0, hV, rfl, hfz, hnd⟩ := hW
  have hA : DataW.TrodAll enc Try.prog W 0 (fun _ => true) true Try.f3.params.toList args.toList ds p := hA0
  rw [Try.params3] at hA hval
  obtain ⟨v0, vs0, d0, ds0, p0, q0, hargs, rfl, rfl, h0, r0⟩ := trodAll_cons hA
  obtain ⟨v1, vs1, d1, ds1, p1, q1, rfl, rfl, rfl, h1, r1⟩ := trodAll_cons r0
  obtain ⟨rfl, rfl, rfl⟩ := trodAll_nil r1
  obtain rfl : args = #[v0, v1] := by cases args; simp_all
  obtain ⟨rfl, rfl⟩ := trodVars_none hV
  obtain ⟨A0, n0, c0, fs0, rfl, hn0, hnc0, hcm0, hf0⟩ := open_pols Try.underlying22 Try.underlying29 rfl rfl rfl rfl rfl rfl rfl rfl Try.underlying3 Try.underlying3 Try.underlying3 Try.underlying3 (by kernel_rfl) (by kernel_rfl) (by kernel_rfl) (by kernel_rfl) (by kernel_rfl) (hval 0 22 v0 rfl rfl) h0
  obtain ⟨A1, n1, c1, bs1, rfl, hn1, hnc1, hcm1, hsee1⟩ := open_bytes Try.underlying23 Try.underlying5 (by kernel_rfl) (hval 1 23 v1 rfl rfl) h1
  refine (walk A0 n0 c0 fs0 A1 n1 c1 bs1 W hn0 hnc0 hcm0 hf0 hn1 hnc1 hcm1 hsee1).mono fun e W' ⟨he, hg⟩ => ?_
  subst he
  exact ⟨_, rfl, law_post hW' rfl (by kernel_rfl) (by kernel_rfl) (by kernel_rfl) Try.underlying4 rfl rfl rfl hg⟩

theorem over : Rows.schedLimitRow.holds Try.pinned (OpenSpec.ofChange Rows.schedLimitSpec) :=
  OpenClaim.holds_of_wide 3 Try.f3 rfl rfl rfl rfl rfl rfl rfl ⟨rfl, rfl, rfl, rfl, rfl⟩ rfl rfl rfl rfl rfl (by kernel_rfl) Try.func3 (by kernel_rfl)
    (of_decide_eq_true (by kernel_rfl)) (by unfold Func.isWrapper; first | (rw [if_pos (by decide +kernel)]; kernel_rfl) | (rw [if_neg (by decide +kernel)]; exact ⟨rfl, rfl⟩))
    (fun os started H enc _ => lifted os started H enc)

theorem proved : Rows.SchedLimitSaid :=
  over
#print axioms proved

end Go.Proofs.Ytbfjakchgmdldaa.SchedLimit
