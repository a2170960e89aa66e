/-
  Contract of checkpointOf: the texts of a checkpoint of a map's values. Conditions: values as a vault has them.
-/
import Derived.Test.YtjekcaoonaniaaaVauChg
import Derived.Test.YtjekcaoonaniaaaJouScan
namespace Go.Proofs.Ytjekcaoonaniaaa
open Go.ChangeShapes Go.WideShapes Go.ChangeAt Go.RowKit Go.Maps
set_option linter.unusedVariables false

/-- one text, in a slice of one -/
theorem TextsAt.one {w0 wt w : World} {At : Option Addr} {m ct : Nat} {t : List UInt8} (h0 : w0.heap.size ≤ wt.heap.size) (h : w.ownsRow wt.heap.size 5 1 (.slice At m ct) m (bytesV t)) (hw : w0.heap.size ≤ w.heap.size) (hm : t.length = m) (hm6 : m ≤ 1000000) :
    TextsAt w0 (some ⟨w.heap.size, 0, none⟩) 1 1 [t] (w.alloc (.cells #[.slice At m ct] 30)) := by
  have hlt : ∀ g o, At = some ⟨g, o, none⟩ → wt.heap.size ≤ g ∧ g < w.heap.size := fun g o e => by
    subst e
    rcases h.2 with ⟨e, _⟩ | ⟨g', cap, cur, e, hg', hh, _⟩
    · cases e
    · injection e with e
      injection e with e
      injection e with e1 e2
      subst e1
      exact ⟨hg', (Array.getElem?_eq_some_iff.1 hh).1⟩
  refine ⟨rfl, [(At, m, ct)], ⟨by simp [listsV], .inr ⟨w.heap.size, 1, _, rfl, hw, heap_alloc_new w _, Nat.le_refl _, by unfold maxLen; omega, rfl, rfl⟩⟩, ⟨rfl, fun i A n c hi => ?_⟩, fun i A n c hi g o e => ?_, fun i A n c hi g o e => ?_⟩
  · cases i with
    | zero => simp at hi; obtain ⟨rfl, rfl, rfl⟩ := hi; exact ⟨t, rfl, hm, hm6, (Seen.of_own h).alloc _⟩
    | succ i => simp at hi
  · cases i with
    | zero => simp at hi; obtain ⟨rfl, rfl, rfl⟩ := hi; exact Nat.le_trans h0 (hlt g o e).1
    | succ i => simp at hi
  · cases i with
    | zero =>
      simp at hi; obtain ⟨rfl, rfl, rfl⟩ := hi
      have := (hlt g o e).2
      exact ⟨by simp; omega, fun e' => by simp [Value.ownBlock] at e'; omega⟩
    | succ i => simp at hi
/-- a row of another kind is kept by an append -/
theorem own_grown {w w' : World} {B B' n n' : Nat} {e e' : TypeId} {v v' : Value} {xs xs' : List Value} (h : w.ownsRow B e 1 v n xs) (h' : w.ownsRow B' e' 1 v' n' xs') (hg : w.grownBy w' v'.ownBlock) (hne : e ≠ e') : w'.ownsRow B e 1 v n xs :=
  (Turned.of_grown hg (p := fun k => v'.ownBlock = some k) fun _ e => e).own h fun k hk hk' => by
    obtain ⟨cs, hb⟩ := row_block h hk
    obtain ⟨cs', hb'⟩ := row_block h' hk'
    rw [hb] at hb'
    injection hb' with hb'
    injection hb' with _ e
    exact hne e
theorem vals_grown {w w' : World} {B B' m n' : Nat} {e' : TypeId} {v' : Value} {x : Vals} {xs' : List Value} (h : ValsAt w B m x) (h' : w.ownsRow B' e' 1 v' n' xs') (hg : w.grownBy w' v'.ownBlock) (hne : e' ≠ 5) : ValsAt w' B m x :=
  h.turned (Turned.of_grown hg (p := fun k => v'.ownBlock = some k) fun _ e => e) fun k hk _ => by
    obtain ⟨cs', hb'⟩ := row_block h' hk
    exact ⟨_, _, _, hb', hne⟩

/-- where the loop stands -/
def CpAt (w : World) (B m : Nat) (x : Vals) (Ak : Option Addr) (ck : Nat) (A : Option Addr) (c i : Nat) (wr : World) : Prop :=
  TextsAt w A (i + 1) c ((cpTexts x).take (i + 1)) wr ∧ ValsAt wr B m x ∧ wr.ownsRow w.heap.size 3 1 (.slice Ak x.length ck) x.length (keysV x) ∧ Below w.heap.size w wr
theorem cp_snoc {x : Vals} {i : Nat} {p : Int × List UInt8} (h : x[i]? = some p) : (cpTexts x).take (i + 1) ++ [keyText p] = (cpTexts x).take (i + 1 + 1) := by
  obtain ⟨hi, e⟩ := List.getElem?_eq_some_iff.1 h
  rw [List.take_succ_eq_append_getElem (i := i + 1) (by rw [cpTexts_length]; omega)]
  congr 2
  simp [cpTexts, e]

set_option maxRecDepth 100000 in
set_option maxHeartbeats 2000000 in
theorem checkpointOf_any (B m : Nat) (x : Vals) (w : World) (h : ValsAt w B m x) (hx : GoodV x) (hl : x.length ≤ 10000) :
    Calls Try.prog 66 #[.map (some m)] w fun e w' => ∃ A c, e = .returned (.slice A (x.length + 1) c) ∧ TextsAt w A (x.length + 1) c (cpTexts x) w' ∧ Below w.heap.size w w' := by
  have H := Lib.hid h
  have hup := hx.up
  obtain ⟨n, hn⟩ : ∃ n, x.length = n := ⟨_, rfl⟩
  have Hn := Lib.hid hn
  have hnl := numB_len9 (n := n) (by omega)
  obtain ⟨w0, hw0⟩ : ∃ w0, w.alloc (.cells #[.slice none 0 0] 104) = w0 := ⟨_, rfl⟩
  have Z0 := Lib.hid (show IsW w0 w.heap.size w.heap.size none [] by rw [← hw0]; exact IsW.zero w _ (Nat.le_refl _))
  have Hb0 := Lib.hid (show Below w.heap.size w w0 by rw [← hw0]; exact (Below.refl _ _).alloc (Nat.le_refl _) _)
  have Hv0 := Lib.hid (h.below Hb0.out)
  clear h
  go_enter Try.func66, Try.ntmps66
  go_wp2_with (at_len; refine wpList_lenV rfl _ rfl B m x rfl Hv0.out ?_)
  refine (WNum_any _ _ none [] n w0 Z0.out (by simp) (by omega) (by omega)).mono ?_
  rintro e w1 ⟨rfl, hg1⟩
  have Hb1 := Lib.hid (Hb0.out.trans (GrewW.below Z0.out hg1))
  obtain ⟨r1, hw1, _, _⟩ := hg1
  rw [List.nil_append, Int.toNat_natCast] at hw1
  have Hw1 := Lib.hid hw1
  clear hw1
  go_wp2_with fail
  refine (WBytes_any _ _ r1 (numB n) w1 Hw1.out (by omega)).mono ?_
  rintro e w2 ⟨A2, c2, rfl, hown2, hb2⟩
  rw [bytes_length] at hown2 ⊢
  have Hb2 := Lib.hid (Hb1.out.trans (hb2.mono Hb1.out.size))
  have hone := TextsAt.one (w0 := w) Hb1.out.size hown2 Hb2.out.size rfl (by omega)
  obtain ⟨w3, hw3⟩ : ∃ w3, w2.alloc (.cells #[.slice A2 (numB n).length c2] 30) = w3 := ⟨_, rfl⟩
  have Hb3 := Lib.hid (show Below w.heap.size w w3 by rw [← hw3]; exact Hb2.out.alloc Hb2.out.size _)
  rw [hw3] at hone
  have Hone := Lib.hid hone
  have Hv3 := Lib.hid (H.out.below Hb3.out)
  clear hone hown2 hb2
  obtain ⟨b2, hb2'⟩ : ∃ b2, w2.heap.size = b2 := ⟨_, rfl⟩
  rw [hb2'] at Hone
  go_wp2_with fail
  refine (Keys_any m w3).mono ?_
  rintro e w4 ⟨rfl, rfl⟩
  go_wp2_with fail
  refine (Sorted_any B m x w3 Hv3.out hup (by omega)).mono ?_
  rintro e w5 ⟨Ak, ck, rfl, hown5, hb5⟩
  rw [hn] at hown5
  have Hown5 := Lib.hid (own_base hown5 Hb3.out.size)
  have Hb5 := Lib.hid (Hb3.out.trans (hb5.mono Hb3.out.size))
  have Hone5 := Lib.hid (Hone.out.below hb5)
  have Hv5 := Lib.hid (Hv3.out.below hb5)
  clear hown5 hb5 hw0 hw3 hb2' hnl
  go_wp2
  go_loopw [4, 17] (fun tv iv wr => ∃ A c i, tv = .slice A (i + 1) c ∧ iv = .int .i64 ((i : Nat) : Int) ∧ i ≤ n ∧ CpAt w B m x Ak ck A c i wr) (fun _ iv _ => n - (intOf iv).toNat)
  case atStart => exact ⟨_, 1, 0, rfl, rfl, Nat.zero_le _, by have := Hone5.out; rw [← Hn.out] at this; exact this, Hv5.out, by rw [Hn.out]; exact Hown5.out, Hb5.out⟩
  case round =>
    obtain ⟨A, c, i, rfl, rfl, hin, hts, hv, hks, hbw⟩ := hrel
    have Hv := Lib.hid hv; have Hks := Lib.hid hks; have Hbw := Lib.hid hbw; have Hts := Lib.hid hts
    clear hv hks hbw hts
    by_cases hlt : i < n
    · obtain ⟨p, hp⟩ : ∃ p, x[i]? = some p := ⟨x[i]'(by omega), List.getElem?_eq_getElem _⟩
      have hpx := hx.all p (List.mem_of_getElem? hp)
      have hkt := keyText_len hpx.2.1 hpx.2.2
      have Hp := Lib.hid hp
      have hkl := numB_len9 (n := p.1.toNat) (by omega)
      have hks := Seen.of_own Hks.out
      obtain ⟨gk, ok, hAk, hck⟩ := hks.at_ (j := i) (by rw [keysV_length, Hn.out]; exact hlt)
      rw [show (keysV x)[i]'(by rw [keysV_length, Hn.out]; exact hlt) = .int .i64 p.1 by
        have := (List.getElem?_eq_some_iff.1 hp).2
        simp only [keysV, List.getElem_map, this]] at hck
      subst hAk
      obtain ⟨w6, hw6⟩ : ∃ w6, wr.alloc (.cells #[.slice none 0 0] 104) = w6 := ⟨_, rfl⟩
      have Z6 := Lib.hid (show IsW w6 wr.heap.size wr.heap.size none [] by rw [← hw6]; exact IsW.zero wr _ (Nat.le_refl _))
      have Hb6 := Lib.hid (show Below wr.heap.size wr w6 by rw [← hw6]; exact (Below.refl _ _).alloc (Nat.le_refl _) _)
      clear hp hks
      go_wp2_with fail
      refine (WNum_any _ _ none [] p.1 w6 Z6.out (by simp) (by omega) (by omega)).mono ?_
      rintro e w7 ⟨rfl, hg7⟩
      have Hb7 := Lib.hid (Hb6.out.trans (GrewW.below Z6.out hg7))
      obtain ⟨r7, hw7, _, _⟩ := hg7
      rw [List.nil_append] at hw7
      have Hw7 := Lib.hid hw7
      clear hw7
      go_wp2_with (at_lookup; refine wpList_getV0 wr rfl _ _ rfl B m x p.1 rfl rfl Hv.out Hb7.out (by omega) (by omega) ?_; intro Av nv cv bs hbs hgot; have Hbs := Lib.hid hbs; have Hgot := Lib.hid hgot; clear hbs hgot)
      have hpb : (p.1, bs) = p := by
        rcases Hgot.out.2 with ⟨_, h2⟩ | ⟨h2, _, _⟩
        · exact rising_one hx.up h2 (List.mem_of_getElem? Hp.out) rfl
        · rw [(hasV_iff (x := x) (k := p.1)).2 ⟨p, List.mem_of_getElem? Hp.out, rfl⟩] at h2; cases h2
      have hbl : bs.length ≤ 900 := by rw [← hpb] at hpx; exact hpx.2.2
      have hkt2 : numB p.1.toNat ++ (numB nv ++ bs) = keyText p := by
        unfold keyText
        rw [← Hbs.out]
        rw [show p.2 = bs from (congrArg Prod.snd hpb).symm]
      have Hkt2 := Lib.hid hkt2
      have hnvl := Hbs.out
      refine (WText_any _ _ r7 (numB p.1.toNat) bs Av nv cv w7 Hw7.out (by omega) Hbs.out (by omega) (fun w' ht => (Seen.of_own (show wr.ownsRow B 5 1 (.slice Av nv cv) nv (bytesV bs) by have := Hgot.out.1; rwa [Hbs.out] at this)).below (Hb7.out.trans (ht.below (fun k hk => by
        rcases hk with rfl | hk
        · exact Nat.le_refl _
        · exact (Hw7.out.lt.2 k hk).1) Hb7.out.size)))).mono ?_
      rintro e w8 ⟨rfl, hg8⟩
      have Hb8 := Lib.hid (Hb7.out.trans (GrewW.below Hw7.out hg8))
      obtain ⟨r8, hw8, _, _⟩ := hg8
      rw [Hkt2.out] at hw8
      have Hw8 := Lib.hid hw8
      clear hw8 hkt2
      go_wp2_with fail
      refine (WBytes_any _ _ r8 (keyText p) w8 Hw8.out (by omega)).mono ?_
      rintro e w9 ⟨At, ct, rfl, hown9, hb9⟩
      rw [bytes_length] at hown9 ⊢
      obtain ⟨T, hT⟩ : ∃ T, (keyText p).length = T := ⟨_, rfl⟩
      rw [hT] at hown9 hkt ⊢
      have Hb9 := Lib.hid (Hb8.out.trans (hb9.mono Hb8.out.size))
      have Hts9 := Lib.hid (Hts.out.below Hb9.out)
      obtain ⟨hn9, ls, k1, k2, k3, k4⟩ := Hts9.out
      have K1 := Lib.hid k1; have K2 := Lib.hid k2; have K3 := Lib.hid k3; have K4 := Lib.hid k4
      have Hown9 := Lib.hid hown9
      have Hrow := Lib.hid (show ∀ k, (Value.slice A (i + 1) c).ownBlock = some k → k < w8.heap.size from fun k hk => by
        obtain ⟨_, ls', k1', _⟩ := Hts.out
        have := (k1'.lt k hk).2
        have := Hb8.out.size
        omega)
      have H5 := Lib.hid (show w.heap.size ≤ w8.heap.size from Nat.le_trans Hbw.out.size Hb8.out.size)
      have HT := Lib.hid hT; have Hn9 := Lib.hid hn9
      have Hv9 := Lib.hid ((Hv.out.below Hb9.out).below ((Below.refl w9.heap.size w9).alloc (Nat.le_refl _) (.cells #[.slice At T ct] 30)))
      have Hk9 := Lib.hid (own_below (own_below Hks.out Hb9.out) ((Below.refl w9.heap.size w9).alloc (Nat.le_refl _) (.cells #[.slice At T ct] 30)))
      have hb9' := Hbw.out.trans (Hb9.out.mono Hbw.out.size)
      have Hbw9 := Lib.hid hb9'
      have hw9 : w.heap.size ≤ w9.heap.size := hb9'.size
      clear k1 k2 k3 k4 hb9 hT hown9 hn9 hb9' hw6 hck hpb
      go_wp2_with (at_builtin; refine wpList_app2 rfl (.tmp 27) (.tmp 29) _ rfl 30 _ 24 Try.underlying69 texts_info rfl w.heap.size A (i + 1) c (listsV ls) rfl (K1.out.alloc _) (some ⟨w9.heap.size, 0, none⟩) 1 1 [.slice At T ct] rfl rfl (Seen.of_cells (heap_alloc_new w9 _)) (by simp [Value.oneCell']) (by unfold maxLen; omega) (by omega) (by simp; omega) ?_; intro A7 c7 wz hown7 hg7 hr7; have Hts7 := Lib.hid (TextsAt.snoc Hn9.out K2.out K3.out K4.out K1.out HT.out (by omega) H5.out Hown9.out Hrow.out ((Below.refl w9.heap.size w9).alloc (Nat.le_refl _) _) hg7 hr7 hown7); have Hb7' := Lib.hid (((Below.refl w.heap.size w9).alloc hw9 _).grown hg7 (by simp; omega) (fun k hk => (K1.out.lt k hk).1)); have Hvz := Lib.hid (vals_grown Hv9.out (K1.out.alloc _) hg7 (by decide)); have Hkz := Lib.hid (own_grown Hk9.out (K1.out.alloc _) hg7 (by decide)); clear hown7 hg7 hr7)
      go_roundw
      case rel => exact ⟨A7, c7, i + 1, rfl, by go_num, by omega, by have := Hts7.out; rwa [cp_snoc Hp.out] at this, Hvz.out, Hkz.out, Hbw9.out.trans Hb7'.out⟩
      case measure => simp [intOf]; omega
    · obtain rfl : i = n := by omega
      go_wp2
      go_ret
      have := Hts.out
      rw [List.take_of_length_le (by rw [cpTexts_length, Hn.out]; omega)] at this
      rw [Hn.out]
      exact ⟨A, c, rfl, this, Hbw.out⟩
end Go.Proofs.Ytjekcaoonaniaaa
