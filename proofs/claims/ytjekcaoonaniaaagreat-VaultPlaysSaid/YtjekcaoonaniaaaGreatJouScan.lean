/-
  Contract of journal.Scan over a device whose power is on, and of Scan of no device.
-/
import Derived.Test.YtjekcaoonaniaaaGreatJouT
import Derived.Test.YtjekcaoonaniaaaGreatTexts
namespace Go.Proofs.YtjekcaoonaniaaaGreat
open Go.ChangeShapes Go.WideShapes Go.ChangeAt Go.RowKit
set_option linter.unusedVariables false

set_option maxRecDepth 100000 in
theorem Scan_nil (a m gen : Int) (w : World) :
    Calls Tryz.prog 34 #[.pointer none, .int .i64 a, .int .i64 m, .int .i64 gen] w fun e w' => e = .returned (.tuple #[.slice none 0 0, .int .i64 0, .int .i64 1]) ∧ w = w' := by
  go_enter Tryz.func34, Tryz.ntmps34
  go_wp2
  go_step3
  go_wp2
  simp only [Exit.noGoto]
  go_ret3
  exact ⟨rfl, rfl⟩

/-- the bytes of a part -/
def Dv.part (d : Dv) (a m : Nat) : List UInt8 := (d.view.drop (64 * a)).take (64 * m)
def ScanRet (gen : Nat) (d : Dv) (a m : Nat) (w : World) (en : Ending) (w' : World) : Prop :=
  Below w.heap.size w w' ∧ ∃ ts A n c, en = .returned (.tuple #[.slice A n c, .int .i64 (secsUp gen 0 ts : Int), .int .i64 0]) ∧ Scanned gen (d.part a m) ts ∧ TextsAt w A n c ts w'

theorem texts_info : (Tryz.prog.info? 31).map (fun i => (i.zero, i.size, i.bytes)) = some (some (.slice none 0 0), 1, 24) := by kernel_rfl
theorem part_length {d : Dv} (h : d.Ok) {a m : Nat} (ham : a + m ≤ d.n) : (d.part a m).length = 64 * m := by
  unfold Dv.part
  rw [List.length_take, List.length_drop, view_length h]
  omega
/-- a sector of what is left of a part -/
theorem part_sec {d : Dv} (h : d.Ok) {a m u j : Nat} (ham : a + m ≤ d.n) (hj : u + j < m) : newest d.L d.S (a + (u + j)) = sec ((d.part a m).drop (64 * u)) j := by
  rw [newest_view h (by omega), sec, sec, Dv.part, List.drop_drop, List.drop_take, List.drop_drop, List.take_take, Nat.min_eq_left (by omega)]
  congr 2
  omega
theorem take_more {b : List UInt8} {j : Nat} : b.take (64 * (j + 1)) = b.take (64 * j) ++ sec b j := by
  rw [sec, show 64 * (j + 1) = 64 * j + 64 by omega, List.take_add]
theorem restN_take {b : List UInt8} {j : Nat} (h : 1 ≤ j) : restN (b.take (64 * j)) = restN b := by
  unfold restN
  simp only [List.getD_eq_getElem?_getD]
  rw [List.getElem?_take, List.getElem?_take, if_pos (by omega), if_pos (by omega)]
/-- no record: it begins otherwise, or says that it is too long -/
theorem none_head {gen k : Nat} {b : List UInt8} (h : b[0]? ≠ some 1 ∨ 16 < secsOf (restN b)) : ∀ t, ¬ Stands gen k t b := fun t hs => by
  have h3 := (formE_nat hs.1).2.2
  have h1 := form_says h3 hs.2
  rcases h with h | h
  · exact h h1.1
  · rw [h1.2.2.2.1] at h3; omega
/-- no record: the part ends within it -/
theorem none_short {gen k : Nat} {b : List UInt8} (h : b.length < 64 * secsOf (restN b)) : ∀ t, ¬ Stands gen k t b := fun t hs => by
  have h1 := form_says (formE_nat hs.1).2.2 hs.2
  omega
/-- no record: no text has this form -/
theorem none_text {gen k : Nat} {b : List UInt8} (h : ∀ t, ¬ IsForm gen k t (b.take (64 * secsOf (restN b)))) : ∀ t, ¬ Stands gen k t b := fun t hs => by
  have h1 := form_says (formE_nat hs.1).2.2 hs.2
  exact h t ⟨hs.1, h1.2.2.2.2.1⟩
theorem one_text {gen k : Nat} {b t : List UInt8} (h : IsForm gen k t (b.take (64 * secsOf (restN b)))) (hl : 64 * secsOf (restN b) ≤ b.length) : Stands gen k t b ∧ manyOf gen k t = secsOf (restN b) := by
  have e : (formX 1 gen k t).length = 64 * secsOf (restN b) := by rw [h.2, List.length_take]; omega
  rw [form_length] at e
  exact ⟨⟨h.1, by rw [h.2]; exact List.take_prefix _ _⟩, by omega⟩

/-- where the scan's outer loop stands -/
def OutAt (gen : Nat) (b : List UInt8) (w : World) (A : Option Addr) (n c u : Nat) (wr : World) : Prop :=
  ∃ ts, TextsAt w A n c ts wr ∧ Stood gen 0 b ts ∧ u = secsUp gen 0 ts ∧ Below w.heap.size w wr
/-- where its inner loop stands: so many sectors of what is left were read -/
def InAt (rem : List UInt8) (w0 : World) (A : Option Addr) (c j : Nat) (wr : World) : Prop :=
  wr.ownsRow w0.heap.size 5 1 (.slice A (64 * j) c) (64 * j) (bytesV (rem.take (64 * j))) ∧ Below w0.heap.size w0 wr ∧ (j = 0 ∨ (rem[0]? = some 1 ∧ j < secsOf (restN rem) ∧ secsOf (restN rem) ≤ 16))

set_option maxRecDepth 100000 in
set_option maxHeartbeats 4000000 in
theorem Scan_any (B g s : Nat) (r : Option Nat) (d : Dv) (a m gen : Nat) (w : World) (h : IsD w B g s r d) (hL : d.L.length ≤ 1000000) (hd : d.down = false) (ham : a + m ≤ d.n) (hg : gen ≤ 1099511627776) :
    Calls Tryz.prog 34 #[.pointer (some ⟨g, 0, none⟩), .int .i64 (a : Int), .int .i64 (m : Int), .int .i64 (gen : Int)] w (ScanRet gen d a m w) := by
  have H := Lib.hid h; clear h
  have hn := H.out.1.n
  have hw : withinB d.n a m = true := decide_eq_true (by omega)
  have hc : decide ((0 : Int) ≤ gen ∧ (gen : Int) ≤ 1099511627776) = true := decide_eq_true (by omega)
  have hpl := part_length H.out.1 ham
  have Hsec := Lib.hid (fun u j => part_sec (u := u) (j := j) H.out.1 ham)
  obtain ⟨b, hb⟩ : ∃ b, d.part a m = b := ⟨_, rfl⟩
  have Hret := Lib.hid (show ∀ en w', (Below w.heap.size w w' ∧ ∃ ts A n c, en = .returned (.tuple #[.slice A n c, .int .i64 (secsUp gen 0 ts : Int), .int .i64 0]) ∧ Scanned gen b ts ∧ TextsAt w A n c ts w') → ScanRet gen d a m w en w' from fun en w' h => by rw [← hb] at h; exact h)
  rw [hb] at hpl Hsec
  have Hpl := Lib.hid hpl
  have Hw := Lib.hid hw; have Hc := Lib.hid hc; have Hd := Lib.hid hd
  clear hw hc hd hb hpl
  go_enter Tryz.func34, Tryz.ntmps34
  go_wp2
  go_step3
  go_wp2_with (first
    | (go_at_call 53; refine (within_any B g s r d a m w H.out (by omega) (by omega) (by omega) (by omega)).mono ?_; rw [Hw.out]; rintro e w1 ⟨rfl, rfl⟩)
    | (go_at_call 54; refine (counts_any gen w (by omega) (by omega)).mono ?_; rw [Hc.out]; rintro e w1 ⟨rfl, rfl⟩)
    | (go_at_call 55; refine (Down_any B g s r d w H.out).mono ?_; rw [Hd.out]; rintro e w1 ⟨rfl, rfl⟩))
  go_step3
  go_wp2
  go_loopw [11, 12] (fun tv uv wr => ∃ A n c u, tv = .slice A n c ∧ uv = .int .i64 ((u : Nat) : Int) ∧ OutAt gen b w A n c u wr) (fun _ uv _ => m - (intOf uv).toNat)
  case atStart => exact ⟨none, 0, 0, 0, rfl, rfl, [], TextsAt.zero w w, trivial, rfl, Below.refl _ _⟩
  case round =>
    obtain ⟨A, n, c, u, rfl, rfl, ts, hts, hst, hu, hbw⟩ := hrel
    have hum : u ≤ m := by have := hst.le; rw [← hu, Hpl.out] at this; omega
    have hnts : n ≤ u := by have := secsUp_ge gen 0 ts; have := hts.1; omega
    have Hts := Lib.hid hts; have Hst := Lib.hid hst; have Hu := Lib.hid hu; have Hbw := Lib.hid hbw
    clear hts hst hu hbw
    by_cases hlt : u < m
    · obtain ⟨rem, hrem⟩ : ∃ rem, b.drop (64 * u) = rem := ⟨_, rfl⟩
      have hreml : rem.length = 64 * (m - u) := by rw [← hrem, List.length_drop, Hpl.out]; omega
      have Hrem := Lib.hid hrem; have Hreml := Lib.hid hreml
      clear hrem hreml
      have stop := Lib.hid (show (∀ t, ¬ Stands gen n t rem) → Scanned gen b ts from fun h => ⟨Hst.out, fun t => by rw [← Hu.out, Hrem.out, Hts.out.1]; exact h t⟩)
      obtain ⟨q, hq⟩ : ∃ q, secsOf (restN rem) = q := ⟨_, rfl⟩
      have hq1 : 1 ≤ q := by rw [← hq]; exact secs_pos _
      have Hq := Lib.hid hq; clear hq
      obtain ⟨wo, rfl⟩ : ∃ wo, wo = wr := ⟨_, rfl⟩
      go_wp2
      go_loopw [11, 12, 13, 14] (fun tv uv fv iv wr2 => ∃ A2 c2 j, tv = .slice A n c ∧ uv = .int .i64 ((u : Nat) : Int) ∧ fv = .slice A2 (64 * j) c2 ∧ iv = .int .i64 ((u + j : Nat) : Int) ∧ u + j ≤ m ∧ InAt rem wo A2 c2 j wr2) (fun _ _ _ iv _ => m - (intOf iv).toNat)
      case atStart => exact ⟨none, 0, 0, rfl, rfl, rfl, rfl, by omega, World.ownsRow_nil _ _ _ _, Below.refl _ _, .inl rfl⟩
      case round =>
        obtain ⟨A2, c2, j, rfl, rfl, rfl, rfl, hjm, hown, hbr, hway⟩ := hrel
        have Hown := Lib.hid hown; have Hbr := Lib.hid hbr; have Hway := Lib.hid hway
        clear hown hbr hway
        by_cases hj : u + j < m
        · have hi : a + (u + j) < d.n := by omega
          have hrd := Read_any B g s r d (a + (u + j)) wr (H.out.below (Hbw.out.trans (Hbr.out.mono Hbw.out.size))) hL Hd.out hi
          rw [Hsec.out u j hj, Hrem.out, show ((a + (u + j) : Nat) : Int) = (a : Int) + ((u + j : Nat) : Int) by omega] at hrd
          have Hrd := Lib.hid hrd; clear hrd
          obtain ⟨v, hv⟩ : ∃ v, u + j = v := ⟨_, rfl⟩
          rw [hv] at hj hjm ⊢
          rw [hv] at Hrd
          have hsl : (sec rem j).length = 64 := sec_length (n := m - u) (by rw [Hreml.out]; omega) (by omega)
          have Hsl := Lib.hid hsl; clear hsl
          obtain ⟨F, hF⟩ : ∃ F, rem.take (64 * (j + 1)) = F := ⟨_, rfl⟩
          have HF := Lib.hid hF
          have hFl : F.length = 64 * (j + 1) := by rw [← hF, List.length_take, Hreml.out]; omega
          have hFa : F = rem.take (64 * j) ++ sec rem j := by rw [← hF]; exact take_more
          have hFq : secsOf (restN F) = q := by rw [← hF, restN_take (by omega)]; exact Hq.out
          obtain ⟨x, hx⟩ : ∃ x, rem[0]? = some x := ⟨_, List.getElem?_eq_getElem (by rw [Hreml.out]; omega)⟩
          have hF0 : F[0]? = some x := by rw [← hF, List.getElem?_take, if_pos (by omega)]; exact hx
          obtain ⟨y, hy⟩ : ∃ y, x.toNat = y := ⟨_, rfl⟩
          have Hx := Lib.hid hx; have HFl := Lib.hid hFl; have HFa := Lib.hid hFa; have HFq := Lib.hid hFq; have HF0 := Lib.hid hF0; have Hy := Lib.hid hy
          have hjq : j < q ∨ j = 0 := by rcases Hway.out with h | h; exact .inr h; exact .inl (by rw [← Hq.out]; exact h.2.1)
          clear hF hFl hFa hFq hx hF0 hy
          obtain ⟨J, hJ⟩ : ∃ J, 64 * j = J := ⟨_, rfl⟩
          rw [hJ] at Hown ⊢
          obtain ⟨K, hK⟩ : ∃ K, J + 64 = K := ⟨_, rfl⟩
          have HK := Lib.hid (show K = 64 * (j + 1) by omega)
          have hKm : K ≤ 300000 := by omega
          have hK0 : 64 ≤ K := by omega
          have HJ := Lib.hid hJ; clear hJ
          go_wp2_with (first
            | (go_at_call 31; go_loud (refine Hrd.out.mono ?_); rintro e w3 ⟨pb, rfl, hpb, hblk, hb3⟩; have Hblk := Lib.hid (Blk.seen hblk); have Hb3 := Lib.hid (Hbr.out.trans (hb3.mono Hbr.out.size)); have Hown3 := Lib.hid (own_below Hown.out hb3); clear hblk hb3)
            | (at_builtin; refine wpList_app rfl (.tmp 58) (.tmp 59) _ rfl 5 _ 1 Tryz.underlying31 u8_info rfl wo.heap.size A2 J c2 (bytesV (rem.take J)) rfl Hown3.out (some ⟨pb, 0, none⟩) 64 64 (bytesV (sec rem j)) rfl (by rw [bytes_length]; exact Hsl.out) Hblk.out (bytes_one _) (by unfold maxLen; omega) (by omega) Hb3.out.size ?_; intro A4 c4 w4 hown4 hb4; rw [hK, ← bytes_append] at hown4; have Hb4 := Lib.hid (Hb3.out.trans hb4); have Hown4 := Lib.hid hown4; clear hown4 hb4))
          have hown5 : w4.ownsRow wo.heap.size 5 1 (.slice A4 K c4) K (bytesV F) := by rw [HFa.out, HJ.out]; exact Hown4.out
          obtain ⟨gf, cap, hv4, hgf, hgl⟩ := hown5.form (by omega)
          injection hv4 with hA4 _ hc4
          subst hA4; subst hc4
          have hcp := own_cap hown5 (by omega)
          refine (sizeOf_any _ K c4 F w4 (by rw [HFl.out, HK.out]) (by omega) (Seen.of_own hown5)).mono ?_
          rw [HFq.out]
          rintro e w5 ⟨rfl, hb5⟩
          have Hown5 := Lib.hid (own_below hown5 hb5)
          have Hb5 := Lib.hid (Hb4.out.trans (hb5.mono Hb4.out.size))
          have hcell : w5.cell? ⟨gf, 0, none⟩ = some (.int .u8 (y : Int)) := by
            have := Hown5.out.cells (g := gf) rfl 0 (.int .u8 (y : Int)) (by rw [← Hy.out, bytesV, List.getElem?_map, HF0.out]; rfl)
            rwa [Addr.add_lit] at this
          clear hown5 hb5 Hown4
          have k0 : (0 : Int) < (K : Int) := by omega
          by_cases hy1 : y = 1
          · have hcell1 : w5.cell? ⟨gf, 0, none⟩ = some (.int .u8 1) := by rw [hcell, hy1]; rfl
            have hrem1 : rem[0]? = some 1 := by rw [Hx.out]; congr 1; exact UInt8.toNat_inj.1 (by rw [Hy.out]; exact hy1)
            have Hrem1 := Lib.hid hrem1; clear hrem1 hcell hy1
            by_cases h16 : 16 < q
            · have hs := Lib.hid (stop.out (none_head (.inr (by rw [Hq.out]; exact h16))))
              have h16i : (16 : Int) < (q : Int) := by omega
              go_wp2
              simp only [Exit.noGoto]
              go_ret3
              exact Hret.out _ _ ⟨Hbw.out.trans (Hb5.out.mono Hbw.out.size), ts, A, n, c, by rw [← Hu.out]; rfl, hs.out, Hts.out.below Hb5.out⟩
            · have h16i : ¬ (16 : Int) < (q : Int) := by omega
              by_cases hqj : K < q * 64
              · have hqji : (K : Int) < (q : Int) * 64 := by omega
                go_wp2
                go_roundw
                case rel => exact ⟨_, c4, j + 1, rfl, rfl, by rw [← HK.out], by go_num, by omega, by rw [← HK.out, show rem.take K = F by rw [HK.out]; exact HF.out]; exact Hown5.out, Hb5.out, .inr ⟨Hrem1.out, by rw [Hq.out]; have := HK.out; omega, by rw [Hq.out]; omega⟩⟩
                case measure => simp [intOf]; omega
              · have hqji : ¬ (K : Int) < (q : Int) * 64 := by omega
                have hqj1 : q = j + 1 := by have := HK.out; omega
                have hFt : rem.take (64 * secsOf (restN rem)) = F := by rw [Hq.out, hqj1, HF.out]
                have hFle : 64 * secsOf (restN rem) ≤ rem.length := by rw [Hq.out, Hreml.out]; omega
                have HFt := Lib.hid hFt; have HFle := Lib.hid hFle
                clear hFt hFle
                go_wp2_with fail
                refine (textOf_any gen n (some ⟨gf, 0, none⟩) K c4 F w5 hg (by omega) (by rw [HFl.out, HK.out]) (by omega) (by have := secs_le (r := restN F); rw [HFq.out] at this; omega) (by omega) hcp.2 (by have := HK.out; omega) (Seen.of_own Hown5.out)).mono ?_
                rintro e w6 ⟨hb6, (⟨t, At, ct, rfl, hownt, hisf⟩ | ⟨rfl, hno⟩)⟩
                · obtain ⟨hstd, hmn⟩ := one_text (by rw [HFt.out]; exact hisf) HFle.out
                  have hm0 : manyOf gen n t = j + 1 := by rw [hmn, Hq.out, hqj1]
                  have hst2 : Stood gen 0 b (ts ++ [t]) := Hst.out.snoc (by rw [Nat.zero_add, ← Hu.out, Hrem.out, Hts.out.1]; exact hstd)
                  have hup : secsUp gen 0 (ts ++ [t]) = v + 1 := by rw [secsUp_snoc, Nat.zero_add, Hts.out.1, hm0, ← Hu.out]; omega
                  have htl : t.length ≤ 1014 := text_small (formE_nat hstd.1).2.2
                  obtain ⟨T, hT⟩ : ∃ T, t.length = T := ⟨_, rfl⟩
                  rw [hT] at hownt htl ⊢
                  have Hts6 := Lib.hid (Hts.out.below (Hb5.out.trans (hb6.mono Hb5.out.size)))
                  have Hb6 := Lib.hid (Hbw.out.trans ((Hb5.out.trans (hb6.mono Hb5.out.size)).mono Hbw.out.size))
                  obtain ⟨hn6, ls, k1, k2, k3, k4⟩ := Hts6.out
                  have K1 := Lib.hid k1; have K2 := Lib.hid k2; have K3 := Lib.hid k3; have K4 := Lib.hid k4
                  have Hown6 := Lib.hid hownt
                  have Hrow := Lib.hid (show ∀ k, (Value.slice A n c).ownBlock = some k → k < w5.heap.size from fun k hk => by
                    obtain ⟨_, ls', k1', _⟩ := Hts.out
                    have := (k1'.lt k hk).2
                    have := Hb5.out.size
                    omega)
                  have H5 := Lib.hid (show w.heap.size ≤ w5.heap.size from Nat.le_trans Hbw.out.size Hb5.out.size)
                  have HT := Lib.hid hT; have Hst2 := Lib.hid hst2; have Hup := Lib.hid hup; have Hn6 := Lib.hid hn6
                  clear k1 k2 k3 k4 hb6 hisf hstd hmn hst2 hup hT hm0 hownt hn6
                  have hw6 : w.heap.size ≤ w6.heap.size := Hb6.out.size
                  go_wp2_with (at_builtin; refine wpList_app2 rfl (.tmp 88) (.tmp 90) _ rfl 31 _ 24 Tryz.underlying80 texts_info rfl w.heap.size A n c (listsV ls) rfl (K1.out.alloc _) (some ⟨w6.heap.size, 0, none⟩) 1 1 [.slice At T ct] rfl rfl (Seen.of_cells (heap_alloc_new w6 _)) (by simp [Value.oneCell']) (by unfold maxLen; omega) (by omega) (by simp; omega) ?_; intro A7 c7 w7 hown7 hg7 hr7; have Hts7 := Lib.hid (TextsAt.snoc Hn6.out K2.out K3.out K4.out K1.out HT.out (by omega) H5.out Hown6.out Hrow.out ((Below.refl w6.heap.size w6).alloc (Nat.le_refl _) _) hg7 hr7 hown7); have Hb7 := Lib.hid (((Below.refl w.heap.size w6).alloc hw6 _).grown hg7 (by simp; omega) (fun k hk => (K1.out.lt k hk).1)); clear hown7 hg7 hr7)
                  go_roundw
                  case rel => exact ⟨A7, n + 1, c7, v + 1, rfl, by go_num, ts ++ [t], Hts7.out, Hst2.out, Hup.out.symm, Hb6.out.trans Hb7.out⟩
                  case measure => simp [intOf]; omega
                · have hs := Lib.hid (stop.out (none_text (by rw [HFt.out]; exact hno)))
                  have Hb6 := Lib.hid (Hb5.out.trans (hb6.mono Hb5.out.size))
                  clear hb6 hno
                  go_wp2
                  simp only [Exit.noGoto]
                  go_ret3
                  exact Hret.out _ _ ⟨Hbw.out.trans (Hb6.out.mono Hbw.out.size), ts, A, n, c, by rw [← Hu.out]; rfl, hs.out, Hts.out.below Hb6.out⟩
          · have hs := Lib.hid (stop.out (none_head (.inl (by rw [Hx.out]; intro e; injection e with e; subst e; exact hy1 Hy.out.symm))))
            have hd : ((y : Int) != 1) = true := by simp; omega
            go_wp2
            simp only [Exit.noGoto]
            go_ret3
            exact Hret.out _ _ ⟨Hbw.out.trans (Hb5.out.mono Hbw.out.size), ts, A, n, c, by rw [← Hu.out]; rfl, hs.out, Hts.out.below Hb5.out⟩
        · have hj0 : 1 ≤ j := by omega
          have hs := Lib.hid (stop.out (none_short (by
            have := Hway.out
            rw [Hreml.out]
            omega)))
          have hjn : u + j = m := by omega
          obtain ⟨v, hv⟩ : ∃ v, u + j = v := ⟨_, rfl⟩
          have hvn : ¬ (v : Int) < (m : Int) := by omega
          rw [hv]
          clear hjn hv
          go_wp2
          go_ret3
          exact Hret.out _ _ ⟨Hbw.out.trans (Hbr.out.mono Hbw.out.size), ts, A, n, c, by rw [← Hu.out]; rfl, hs.out, Hts.out.below Hbr.out⟩
    · obtain rfl : u = m := by omega
      have hsc : Scanned gen b ts := ⟨Hst.out, fun t => by
        rw [← Hu.out, List.drop_eq_nil_of_le (by rw [Hpl.out]; omega)]
        exact none_head (.inl (by simp)) t⟩
      have Hsc := Lib.hid hsc; clear hsc
      go_wp2
      simp only [Exit.noGoto]
      go_ret3
      exact Hret.out _ _ ⟨Hbw.out, ts, A, n, c, by rw [← Hu.out]; rfl, Hsc.out, Hts.out⟩
end Go.Proofs.YtjekcaoonaniaaaGreat
