/-
  VaultOwn: values are by themselves; a key that is dropped is gone, and may be put again. For every input, without conditions.
-/
import Derived.Test.YtjekcaoonaniaaaVauA
import Derived.Test.YtjekcaoonaniaaaLaw
import Derived.OwnWalk
namespace Go.Proofs.Ytjekcaoonaniaaa.vaultOwn
open Go.ChangeShapes Go.WideShapes Go.ChangeAt Go.RowKit Go.Proofs.Ytjekcaoonaniaaa
set_option linter.unusedVariables false

/-- a vault of at most i short changes, with values x -/
structure OwnAt (i : Nat) (x : Vals) (st : Vt) : Prop where
  ok : st.Ok
  m : st.m = 20
  len : st.cs.length ≤ i
  small : ∀ c ∈ st.cs, c.text.length ≤ 92
  x : st.x = x
theorem OwnAt.new : OwnAt 0 [] (Vt.new 40) := ⟨Vt.new_ok (by omega) (by omega), rfl, Nat.zero_le _, (fun c hc => by cases hc), rfl⟩
theorem OwnAt.note {i : Nat} {x : Vals} {st : Vt} (h : OwnAt i x st) (hi : i ≤ 2) {c : Chg} (hc : c.Ok) (hb : c.bytes.length ≤ 60) : st.fits c ∧ OwnAt (i + 1) (c.on x) (st.noted c) := by
  obtain ⟨ok, hm, hl, hs, hx⟩ := h
  have ht := Chg.text_le hc hb
  have hu : st.used ≤ 2 * st.cs.length := by
    unfold Vt.used
    rw [← st.texts_length]
    refine secs_twos ok.g (fun t ht => ?_) (by rw [st.texts_length]; omega)
    obtain ⟨c, hc, rfl⟩ := List.mem_map.1 ht
    exact hs c hc
  have hf : st.fits c := by
    unfold Vt.fits
    have := many_two (gen := st.gen) (n := st.cs.length) (t := c.text) ok.g (by omega) (by omega)
    omega
  refine ⟨hf, ok.noted hc hf, hm, ?_, ?_, ?_⟩
  · show (st.cs ++ [_]).length ≤ _; rw [List.length_append]; simp only [List.length_cons, List.length_nil]; omega
  · intro d hd
    rcases List.mem_append.1 hd with hd | hd
    · exact hs d hd
    · obtain rfl := List.mem_singleton.1 hd
      omega
  · rw [Vt.noted_x, hx]

theorem walk_long (a0 : Int) (A1 A2 : Option Addr) (n1 c1 n2 c2 : Nat) (w : World) (h : 60 < n1 ∨ 60 < n2) (m1 : n1 ≤ maxLen) (m2 : n2 ≤ maxLen) :
    Calls Try.prog 4 #[.int .u16 a0, .slice A1 n1 c1, .slice A2 n2 c2] w fun e w' => e = .returned (.bool true) ∧ Below w.heap.size w w' := by
  unfold maxLen at m1 m2
  by_cases h1 : 60 < n1
  · have h1' : (60 : Int) < (n1 : Int) := by omega
    go_enter Try.func4, Try.ntmps4
    go_wp2_with (go_at_call 11; refine (awake_any w).mono ?_; rintro e w1 ⟨rfl, hb⟩; have Hb := Lib.hid hb; clear hb)
    go_ret
    exact ⟨rfl, Hb.out⟩
  · have h1' : ¬ (60 : Int) < (n1 : Int) := by omega
    have h2' : (60 : Int) < (n2 : Int) := by omega
    go_enter Try.func4, Try.ntmps4
    go_wp2_with (go_at_call 11; refine (awake_any w).mono ?_; rintro e w1 ⟨rfl, hb⟩; have Hb := Lib.hid hb; clear hb)
    go_ret
    exact ⟨rfl, Hb.out⟩

set_option maxRecDepth 100000 in
set_option maxHeartbeats 2000000 in
theorem walk_main (k : Nat) (A1 A2 : Option Addr) (n1 c1 n2 c2 : Nat) (xs bs : List UInt8) (w : World) (hk : k < 65536) (ha : xs.length = n1) (hb : bs.length = n2) (h1 : n1 ≤ 60) (h2 : n2 ≤ 60) (hsa : Seen w A1 (bytesV xs)) (hsb : Seen w A2 (bytesV bs)) :
    Calls Try.prog 4 #[.int .u16 (k : Int), .slice A1 n1 c1, .slice A2 n2 c2] w fun e w' => e = .returned (.bool true) ∧ Below w.heap.size w w' := by
  obtain ⟨B, hB⟩ : ∃ B, w.heap.size = B := ⟨_, rfl⟩
  have HB := Lib.hid hB; clear hB
  have Ha := Lib.hid ha; have Hbl := Lib.hid hb; have Hsa := Lib.hid hsa; have Hsb := Lib.hid hsb
  have i1 : ¬ (60 : Int) < (n1 : Int) := by omega
  have i2 : ¬ (60 : Int) < (n2 : Int) := by omega
  clear ha hb hsa hsb
  have seenA : ∀ w', Below B w w' → Seen w' A1 (bytesV xs) := fun w' h => Hsa.out.below (by rw [HB.out]; exact h)
  have seenB : ∀ w', Below B w w' → Seen w' A2 (bytesV bs) := fun w' h => Hsb.out.below (by rw [HB.out]; exact h)
  have SA := Lib.hid seenA; have SB := Lib.hid seenB
  clear seenA seenB
  have up : ∀ w', Below B w w' → B ≤ w'.heap.size := fun w' h => by have := h.size; have := HB.out; omega
  have Up := Lib.hid up; clear up
  go_enter Try.func4, Try.ntmps4
  go_wp2_with fail
  refine (New_any 40 w (by omega) (by omega)).mono ?_
  rw [HB.out]
  rintro e w1 ⟨g, s, rfl, hd, hb⟩
  have Hd1 := Lib.hid hd; have Hb1 := Lib.hid hb
  clear hd hb
  go_wp2_with fail
  refine (VOpen_any B g s none (Dv.new 40) (Vt.new 40) w1 Hd1.out (DevOk.new (by omega) (by omega)) (Vt.new_ok (by omega) (by omega))).mono ?_
  rintro e w2 ⟨v, rfl, hv, hiv, ht⟩
  have Hv2 := Lib.hid hiv
  have Hb2 := Lib.hid (Hb1.out.trans ((keptV_dev Hd1.out ht).below (Up.out _ Hb1.out)))
  clear hv hiv ht
  obtain ⟨f1, o1⟩ := OwnAt.new.note (by omega) (c := ⟨(k : Int), some xs⟩) ⟨by show (0 : Int) ≤ k; omega, by show (k : Int) ≤ _; omega, by show xs.length ≤ 900; have := Ha.out; omega⟩ (by show xs.length ≤ 60; have := Ha.out; omega)
  have F1 := Lib.hid f1; have O1 := Lib.hid o1; clear f1 o1
  go_wp2_with fail
  refine (Put_any B v g s (Vt.new 40) k A1 n1 c1 xs w2 Hv2.out (by omega) (by omega) Ha.out (by omega) (SA.out _ Hb2.out)).mono ?_
  intro e w3 hp
  obtain ⟨rfl, hv3, hk3⟩ := hp.fit (by omega) (by omega) (by have := Ha.out; omega) F1.out
  have Hv3 := Lib.hid hv3
  have Hb3 := Lib.hid (Hb2.out.trans (hk3.below (Up.out _ Hb2.out)))
  have hr3 := hv3.read
  rw [O1.out.x] at hr3
  have Hr3 := Lib.hid hr3
  clear hp hv3 hk3 hr3
  go_wp2_with fail
  refine (Get_any B v _ _ k w3 Hr3.out (by omega) (by omega)).mono ?_
  intro e w4 hg
  obtain ⟨Ax, cx, rfl, hown, hb4⟩ := GetRet.one (k := (k : Int)) (b := xs) hg
  rw [Ha.out] at hown ⊢
  have Hox := Lib.hid hown; have Hb4 := Lib.hid hb4
  clear hg hown hb4
  go_wp2
  go_loopw [12] (fun iv wr => ∃ (i : Nat) (ys : List UInt8), i ≤ n1 ∧ iv = .int .i64 (i : Int) ∧ ys.length = n1 ∧ wr.ownsRow w3.heap.size 5 1 (.slice Ax n1 cx) n1 (bytesV ys) ∧ Below w3.heap.size w3 wr) (fun iv _ => n1 - (intOf iv).toNat)
  case atStart => exact ⟨0, xs, by omega, rfl, Ha.out, Hox.out, Hb4.out⟩
  case round =>
    obtain ⟨i, ys, hin, rfl, hyl, hown, hbw⟩ := hrel
    have Hyl := Lib.hid hyl; have Hown := Lib.hid hown; have Hbw := Lib.hid hbw
    clear hyl hown hbw
    by_cases hi : i < n1
    · obtain ⟨gx, cc, hf, hg1, hg2⟩ := Hown.out.form (by omega)
      injection hf with hf1 _ hf2
      subst hf1
      subst hf2
      have b0 : (0 : Int) ≤ (i : Int) := by omega
      have b1 : (i : Int) < (n1 : Int) := by omega
      have hy : (bytesV ys)[i]? = some (byteV (ys.getD i 0)) := by
        have := Hyl.out
        simp [bytesV, List.getD, List.getElem?_eq_getElem (show i < ys.length by omega)]
      have hcell : wr.cell? ⟨gx, i, none⟩ = some (byteV (ys.getD i 0)) := by rw [Hown.out.cellAt i (by omega)]; exact hy
      have hfz := Hown.out.frozenAt i
      have hcap := own_cap Hown.out (by omega)
      clear hy
      generalize ys.getD i 0 = y at hcell
      unfold byteV at hcell
      go_wp2
      go_roundw
      case rel =>
        have hst := Hown.out.stored i (byteV (UInt8.ofNat (y.toNat + 1)))
        have hz : (((UInt8.ofNat (y.toNat + 1)).toNat : Nat) : Int) = ((y.toNat : Int) + 1) % 256 := by rw [UInt8.toNat_ofNat']; omega
        have e : bytesV (ys.set i (UInt8.ofNat (y.toNat + 1))) = (bytesV ys).set i (byteV (UInt8.ofNat (y.toNat + 1))) := by simp [bytesV, List.map_set]
        refine ⟨i + 1, ys.set i (UInt8.ofNat (y.toNat + 1)), by omega, by go_num, by rw [List.length_set]; exact Hyl.out, ?_, Hbw.out.setCell hg1 _⟩
        rw [e, ← hz]
        exact hst.1
      case measure => simp [intOf]; omega
    · have b1 : ¬ (i : Int) < (n1 : Int) := by omega
      have Hvr := Lib.hid (Hv3.out.below Hbw.out)
      have Hrr := Lib.hid (Hr3.out.below Hbw.out)
      have Hbr := Lib.hid (Hb3.out.trans (Hbw.out.mono (Up.out _ Hb3.out)))
      clear Hown Hbw
      go_wp2_with fail
      refine (Get_any B v _ _ k wr Hrr.out (by omega) (by omega)).mono ?_
      intro e w5 hg
      obtain ⟨Ay, cy, rfl, hown, hb5⟩ := GetRet.one (k := (k : Int)) (b := xs) hg
      rw [Ha.out] at hown ⊢
      have Hoy := Lib.hid hown; have Hv5 := Lib.hid (Hvr.out.below hb5)
      have Hb5 := Lib.hid (Hbr.out.trans (hb5.mono (Up.out _ Hbr.out)))
      clear hg hown hb5
      go_wp2_with fail
      have hs := Same_any Ay A1 n1 n1 cy c1 xs xs w5 Ha.out Ha.out (Seen.of_own Hoy.out) (SA.out _ Hb5.out) (by omega)
      rw [decide_eq_true rfl] at hs
      refine hs.mono ?_
      rintro e w6 ⟨rfl, hb6⟩
      have Hv6 := Lib.hid (Hv5.out.below hb6)
      have Hb6 := Lib.hid (Hb5.out.trans (hb6.mono (Up.out _ Hb5.out)))
      clear hs hb6
      have hh : hasV ((Vt.new 40).noted ⟨(k : Int), some xs⟩).x (k : Int) = true := by rw [O1.out.x]; exact hasV_iff.2 ⟨_, List.mem_singleton.2 rfl, rfl⟩
      obtain ⟨f2, o2⟩ := O1.out.note (by omega) (c := ⟨(k : Int), none⟩) ⟨by show (0 : Int) ≤ k; omega, by show (k : Int) ≤ _; omega, Nat.zero_le _⟩ (Nat.zero_le _)
      have F2 := Lib.hid f2; have O2 := Lib.hid o2; have Hh := Lib.hid hh; clear f2 o2 hh
      go_wp2_with fail
      refine (Drop_any B v g s _ k w6 Hv6.out (by omega) (by omega)).mono ?_
      intro e w7 hp
      obtain ⟨rfl, hv7, hk7⟩ := hp.fit Hh.out F2.out
      have Hv7 := Lib.hid hv7
      have Hb7 := Lib.hid (Hb6.out.trans (hk7.below (Up.out _ Hb6.out)))
      clear hp hv7 hk7
      have hx2 := O2.out.x
      rw [show (⟨(k : Int), none⟩ : Chg).on ((⟨(k : Int), some xs⟩ : Chg).on []) = [] from outV_one _ _] at hx2
      have Hx2 := Lib.hid hx2; clear hx2
      go_wp2_with fail
      refine (Drop_any B v g s _ k w7 Hv7.out (by omega) (by omega)).mono ?_
      intro e w8 hp
      obtain ⟨rfl, hv8, hk8⟩ := hp.none (by rw [Hx2.out]; rfl)
      have Hv8 := Lib.hid hv8
      have Hb8 := Lib.hid (Hb7.out.trans (hk8.below (Up.out _ Hb7.out)))
      have hr8 := hv8.read
      rw [Hx2.out] at hr8
      have Hr8 := Lib.hid hr8
      clear hp hv8 hk8 hr8
      go_wp2_with fail
      refine (Get_any B v _ _ k w8 Hr8.out (by omega) (by omega)).mono ?_
      intro e w9 hg
      obtain ⟨Az, cz, rfl, hown, hb9⟩ := GetRet.zero (k := (k : Int)) hg
      have Hv9 := Lib.hid (Hv8.out.below hb9); have Hr9 := Lib.hid (Hr8.out.below hb9)
      have Hb9 := Lib.hid (Hb8.out.trans (hb9.mono (Up.out _ Hb8.out)))
      clear hg hown hb9
      go_wp2_with fail
      refine (VKeys_any B v _ _ w9 Hr9.out).mono ?_
      rintro e w10 ⟨Ak, ck, rfl, hown, hb10⟩
      have Hv10 := Lib.hid (Hv9.out.below hb10)
      have Hb10 := Lib.hid (Hb9.out.trans (hb10.mono (Up.out _ Hb9.out)))
      clear hown hb10
      obtain ⟨f3, o3⟩ := O2.out.note (by omega) (c := ⟨(k : Int), some bs⟩) ⟨by show (0 : Int) ≤ k; omega, by show (k : Int) ≤ _; omega, by show bs.length ≤ 900; have := Hbl.out; omega⟩ (by show bs.length ≤ 60; have := Hbl.out; omega)
      have F3 := Lib.hid f3; have O3 := Lib.hid o3; clear f3 o3
      go_wp2_with fail
      refine (Put_any B v g s _ k A2 n2 c2 bs w10 Hv10.out (by omega) (by omega) Hbl.out (by omega) (SB.out _ Hb10.out)).mono ?_
      intro e w11 hp
      obtain ⟨rfl, hv11, hk11⟩ := hp.fit (by omega) (by omega) (by have := Hbl.out; omega) F3.out
      have Hb11 := Lib.hid (Hb10.out.trans (hk11.below (Up.out _ Hb10.out)))
      obtain ⟨r11, d11, hd11, hdo11⟩ := hv11.dev
      have Hd11 := Lib.hid hd11; have Hdo11 := Lib.hid hdo11; have Hok11 := Lib.hid hv11.ok
      clear hp hv11 hk11 hd11 hdo11
      go_wp2_with fail
      refine (VOpen_any B g s r11 d11 _ w11 Hd11.out Hdo11.out Hok11.out).mono ?_
      rintro e w12 ⟨u, rfl, hu, hiu, ht⟩
      have hr12 := hiu.read
      rw [Vt.noted_x, Hx2.out, show (⟨(k : Int), some bs⟩ : Chg).on [] = [((k : Int), bs)] from rfl] at hr12
      have Hr12 := Lib.hid hr12
      have Hb12 := Lib.hid (Hb11.out.trans ((keptV_dev Hd11.out ht).below (Up.out _ Hb11.out)))
      clear hu hiu ht hr12
      go_wp2_with fail
      refine (Get_any B u _ _ k w12 Hr12.out (by omega) (by omega)).mono ?_
      intro e w13 hg
      obtain ⟨Aw, cw, rfl, hown, hb13⟩ := GetRet.one (k := (k : Int)) (b := bs) hg
      rw [Hbl.out] at hown ⊢
      have How := Lib.hid hown
      have Hb13 := Lib.hid (Hb12.out.trans (hb13.mono (Up.out _ Hb12.out)))
      clear hg hown hb13
      go_wp2_with fail
      have hs := Same_any Aw A2 n2 n2 cw c2 bs bs w13 Hbl.out Hbl.out (Seen.of_own How.out) (SB.out _ Hb13.out) (by omega)
      rw [decide_eq_true rfl] at hs
      refine hs.mono ?_
      rintro e w14 ⟨rfl, hb14⟩
      have Hb14 := Lib.hid (Hb13.out.trans (hb14.mono (Up.out _ Hb13.out)))
      clear hs hb14
      go_wp2_with (go_at_call 11; refine (awake_any w14).mono ?_; rintro e w15 ⟨rfl, hb15⟩; have Hb15 := Lib.hid (Hb14.out.trans (hb15.mono (Up.out _ Hb14.out))); clear hb15)
      go_ret
      rw [HB.out]
      exact ⟨rfl, Hb15.out⟩

theorem walk (a0 : Int) (A1 : Option Addr) (n1 c1 : Nat) (xs : List UInt8) (A2 : Option Addr) (n2 c2 : Nat) (bs : List UInt8) (w : World) (w0 : (Lit.int .u16 a0).wf = true) (hn1 : xs.length = n1) (hnc1 : n1 ≤ c1) (hcm1 : c1 ≤ maxLen) (hs1 : Seen w A1 (bytesV xs)) (hn2 : bs.length = n2) (hnc2 : n2 ≤ c2) (hcm2 : c2 ≤ maxLen) (hs2 : Seen w A2 (bytesV bs)) :
    Calls Try.prog 4 #[.int .u16 a0, .slice A1 n1 c1, .slice A2 n2 c2] w fun e w' => e = .returned (.bool true) ∧ Below w.heap.size w w' := by
  obtain ⟨k, rfl, hk⟩ := u16_nat w0
  by_cases h : 60 < n1 ∨ 60 < n2
  · exact walk_long _ A1 A2 n1 c1 n2 c2 w h (by omega) (by omega)
  · exact walk_main k A1 A2 n1 c1 n2 c2 xs bs w hk hn1 hn2 (by omega) (by omega) hs1 hs2

/-! ### THE ROW -/
theorem own : ownKnob Try.prog.godebug = none := by kernel_rfl

set_option maxRecDepth 100000 in
theorem lifted (os : Os) (started : os.Started) (H : Type) (enc : TypeId × Value → H) :
    ReturnsInHanded {} Try.checked os 4 .any (Rows.vaultOwnSpec.pre6 enc Try.prog Try.f4 Rows.vaultOwnRow.domain false) (Rows.vaultOwnSpec.post enc Try.prog Try.f4 false true false false) := by
  refine returnsInHanded_of_change (C := Try.checked) own started (by kernel_rfl) Try.func4
    (ChangeSpec.witness6 (enc := enc) (C := Try.checked) false ⟨#[], #[.int .u16 0, .slice none 0 0, .slice none 0 0], []⟩ 8 (by kernel_rfl) (by kernel_rfl) (by kernel_rfl) (by kernel_rfl)) ?_
  intro W base args ds gs before hval0 hW hcnd _
  have hval : ∀ (j : Nat) t v, Try.f4.params[j]? = some t → args[j]? = some v → Value.okWide Try.prog W .any base t v := hval0
  have hW' := hW
  obtain ⟨p, q, hA0, hV, rfl, hfz, hnd⟩ := hW
  have hA : DataW.TrodAll enc Try.prog W 0 (fun _ => true) true Try.f4.params.toList args.toList ds p := hA0
  rw [Try.params4] at hA hval
  obtain ⟨v0, vs0, d0, ds0, p0, q0, hargs, rfl, rfl, h0, r0⟩ := trodAll_cons hA
  obtain ⟨v1, vs1, d1, ds1, p1, q1, rfl, rfl, rfl, h1, r1⟩ := trodAll_cons r0
  obtain ⟨v2, vs2, d2, ds2, p2, q2, rfl, rfl, rfl, h2, r2⟩ := trodAll_cons r1
  obtain ⟨rfl, rfl, rfl⟩ := trodAll_nil r2
  obtain rfl : args = #[v0, v1, v2] := by cases args; simp_all
  obtain ⟨rfl, rfl⟩ := trodVars_none hV
  obtain ⟨a0, rfl, rfl, rfl, w0⟩ := open_int Try.underlying36 (hval 0 36 v0 rfl rfl) h0
  obtain ⟨A1, n1, c1, bs1, rfl, hn1, hnc1, hcm1, hsee1⟩ := open_bytes Try.underlying30 Try.underlying5 (by kernel_rfl) (hval 1 30 v1 rfl rfl) h1
  obtain ⟨A2, n2, c2, bs2, rfl, hn2, hnc2, hcm2, hsee2⟩ := open_bytes Try.underlying30 Try.underlying5 (by kernel_rfl) (hval 2 30 v2 rfl rfl) h2
  refine (walk a0 A1 n1 c1 bs1 A2 n2 c2 bs2 W w0 hn1 hnc1 hcm1 hsee1 hn2 hnc2 hcm2 hsee2).mono fun e W' ⟨he, hg⟩ => ?_
  subst he
  exact ⟨_, rfl, law_post hW' rfl (by kernel_rfl) (by kernel_rfl) (by kernel_rfl) Try.underlying4 rfl rfl rfl hg⟩

theorem over : Rows.vaultOwnRow.holds Try.pinned (OpenSpec.ofChange Rows.vaultOwnSpec) :=
  OpenClaim.holds_of_wide 4 Try.f4 rfl rfl rfl rfl rfl rfl rfl ⟨rfl, rfl, rfl, rfl, rfl⟩ rfl rfl rfl rfl rfl (by kernel_rfl) Try.func4 (by kernel_rfl)
    (of_decide_eq_true (by kernel_rfl)) (by unfold Func.isWrapper; first | (rw [if_pos (by decide +kernel)]; kernel_rfl) | (rw [if_neg (by decide +kernel)]; exact ⟨rfl, rfl⟩))
    (fun os started H enc _ => lifted os started H enc)

theorem proved : Rows.VaultOwnSaid :=
  over
#print axioms proved

end Go.Proofs.Ytjekcaoonaniaaa.vaultOwn
