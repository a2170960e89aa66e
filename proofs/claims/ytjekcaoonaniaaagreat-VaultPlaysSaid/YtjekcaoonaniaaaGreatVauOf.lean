/-
  Contract of checkpointOf: the texts of a checkpoint of a map's values. Conditions: values as a vault has them.
  Contracts of valuesOf, of a checkpoint's texts and of none; of sectorsOf of texts. Conditions: values as a vault has them; short texts.
-/
import Derived.Test.YtjekcaoonaniaaaGreatVauChg
import Derived.Test.YtjekcaoonaniaaaGreatJouScan
namespace Go.Proofs.YtjekcaoonaniaaaGreat
open Go.ChangeShapes Go.WideShapes Go.ChangeAt Go.RowKit Go.Maps
set_option linter.unusedVariables false

/-- one text, in a slice of one -/
theorem TextsAt.one {w0 wt w : World} {At : Option Addr} {m ct : Nat} {t : List UInt8} (h0 : w0.heap.size ≤ wt.heap.size) (h : w.ownsRow wt.heap.size 5 1 (.slice At m ct) m (bytesV t)) (hw : w0.heap.size ≤ w.heap.size) (hm : t.length = m) (hm6 : m ≤ 1000000) :
    TextsAt w0 (some ⟨w.heap.size, 0, none⟩) 1 1 [t] (w.alloc (.cells #[.slice At m ct] 31)) := by
  have hlt : ∀ g o, At = some ⟨g, o, none⟩ → wt.heap.size ≤ g ∧ g < w.heap.size := fun g o e => by
    subst e
    rcases h.2 with ⟨e, _⟩ | ⟨g', cap, cur, e, hg', hh, _⟩
    · cases e
    · injection e with e
      injection e with e
      injection e with e1 e2
      subst e1
      exact ⟨hg', (Array.getElem?_eq_some_iff.1 hh).1⟩
  refine ⟨rfl, [(At, m, ct)], ⟨by simp [listsV], .inr ⟨w.heap.size, 1, _, rfl, hw, heap_alloc_new w _, Nat.le_refl _, by unfold maxLen; omega, rfl, rfl⟩⟩, ⟨rfl, fun i A n c hi => ?_⟩, fun i A n c hi g o e => ?_, fun i A n c hi g o e => ?_⟩
  · cases i with
    | zero => simp at hi; obtain ⟨rfl, rfl, rfl⟩ := hi; exact ⟨t, rfl, hm, hm6, (Seen.of_own h).alloc _⟩
    | succ i => simp at hi
  · cases i with
    | zero => simp at hi; obtain ⟨rfl, rfl, rfl⟩ := hi; exact Nat.le_trans h0 (hlt g o e).1
    | succ i => simp at hi
  · cases i with
    | zero =>
      simp at hi; obtain ⟨rfl, rfl, rfl⟩ := hi
      have := (hlt g o e).2
      exact ⟨by simp; omega, fun e' => by simp [Value.ownBlock] at e'; omega⟩
    | succ i => simp at hi
/-- a row of another kind is kept by an append -/
theorem own_grown {w w' : World} {B B' n n' : Nat} {e e' : TypeId} {v v' : Value} {xs xs' : List Value} (h : w.ownsRow B e 1 v n xs) (h' : w.ownsRow B' e' 1 v' n' xs') (hg : w.grownBy w' v'.ownBlock) (hne : e ≠ e') : w'.ownsRow B e 1 v n xs :=
  (Turned.of_grown hg (p := fun k => v'.ownBlock = some k) fun _ e => e).own h fun k hk hk' => by
    obtain ⟨cs, hb⟩ := row_block h hk
    obtain ⟨cs', hb'⟩ := row_block h' hk'
    rw [hb] at hb'
    injection hb' with hb'
    injection hb' with _ e
    exact hne e
theorem vals_grown {w w' : World} {B B' m n' : Nat} {e' : TypeId} {v' : Value} {x : Vals} {xs' : List Value} (h : ValsAt w B m x) (h' : w.ownsRow B' e' 1 v' n' xs') (hg : w.grownBy w' v'.ownBlock) (hne : e' ≠ 5) : ValsAt w' B m x :=
  h.turned (Turned.of_grown hg (p := fun k => v'.ownBlock = some k) fun _ e => e) fun k hk _ => by
    obtain ⟨cs', hb'⟩ := row_block h' hk
    exact ⟨_, _, _, hb', hne⟩

/-- where the loop stands -/
def CpAt (w : World) (B m : Nat) (x : Vals) (Ak : Option Addr) (ck : Nat) (A : Option Addr) (c i : Nat) (wr : World) : Prop :=
  TextsAt w A (i + 1) c ((cpTexts x).take (i + 1)) wr ∧ ValsAt wr B m x ∧ wr.ownsRow w.heap.size 3 1 (.slice Ak x.length ck) x.length (keysV x) ∧ Below w.heap.size w wr
theorem cp_snoc {x : Vals} {i : Nat} {p : Int × List UInt8} (h : x[i]? = some p) : (cpTexts x).take (i + 1) ++ [keyText p] = (cpTexts x).take (i + 1 + 1) := by
  obtain ⟨hi, e⟩ := List.getElem?_eq_some_iff.1 h
  rw [List.take_succ_eq_append_getElem (i := i + 1) (by rw [cpTexts_length]; omega)]
  congr 2
  simp [cpTexts, e]

set_option maxRecDepth 100000 in
set_option maxHeartbeats 2000000 in
theorem checkpointOf_any (B m : Nat) (x : Vals) (w : World) (h : ValsAt w B m x) (hx : GoodV x) (hl : x.length ≤ 10000) :
    Calls Tryz.prog 71 #[.map (some m)] w fun e w' => ∃ A c, e = .returned (.slice A (x.length + 1) c) ∧ TextsAt w A (x.length + 1) c (cpTexts x) w' ∧ Below w.heap.size w w' := by
  have H := Lib.hid h
  have hup := hx.up
  obtain ⟨n, hn⟩ : ∃ n, x.length = n := ⟨_, rfl⟩
  have Hn := Lib.hid hn
  have hnl := numB_len9 (n := n) (by omega)
  obtain ⟨w0, hw0⟩ : ∃ w0, w.alloc (.cells #[.slice none 0 0] 120) = w0 := ⟨_, rfl⟩
  have Z0 := Lib.hid (show IsW w0 w.heap.size w.heap.size none [] by rw [← hw0]; exact IsW.zero w _ (Nat.le_refl _))
  have Hb0 := Lib.hid (show Below w.heap.size w w0 by rw [← hw0]; exact (Below.refl _ _).alloc (Nat.le_refl _) _)
  have Hv0 := Lib.hid (h.below Hb0.out)
  clear h
  go_enter Tryz.func71, Tryz.ntmps71
  go_wp2_with (at_len; refine wpList_lenV rfl _ rfl B m x rfl Hv0.out ?_)
  refine (WNum_any _ _ none [] n w0 Z0.out (by simp) (by omega) (by omega)).mono ?_
  rintro e w1 ⟨rfl, hg1⟩
  have Hb1 := Lib.hid (Hb0.out.trans (GrewW.below Z0.out hg1))
  obtain ⟨r1, hw1, _, _⟩ := hg1
  rw [List.nil_append, Int.toNat_natCast] at hw1
  have Hw1 := Lib.hid hw1
  clear hw1
  go_wp2_with fail
  refine (WBytes_any _ _ r1 (numB n) w1 Hw1.out (by omega)).mono ?_
  rintro e w2 ⟨A2, c2, rfl, hown2, hb2⟩
  rw [bytes_length] at hown2 ⊢
  have Hb2 := Lib.hid (Hb1.out.trans (hb2.mono Hb1.out.size))
  have hone := TextsAt.one (w0 := w) Hb1.out.size hown2 Hb2.out.size rfl (by omega)
  obtain ⟨w3, hw3⟩ : ∃ w3, w2.alloc (.cells #[.slice A2 (numB n).length c2] 31) = w3 := ⟨_, rfl⟩
  have Hb3 := Lib.hid (show Below w.heap.size w w3 by rw [← hw3]; exact Hb2.out.alloc Hb2.out.size _)
  rw [hw3] at hone
  have Hone := Lib.hid hone
  have Hv3 := Lib.hid (H.out.below Hb3.out)
  clear hone hown2 hb2
  obtain ⟨b2, hb2'⟩ : ∃ b2, w2.heap.size = b2 := ⟨_, rfl⟩
  rw [hb2'] at Hone
  go_wp2_with fail
  refine (Keys_any m w3).mono ?_
  rintro e w4 ⟨rfl, rfl⟩
  go_wp2_with fail
  refine (Sorted_any B m x w3 Hv3.out hup (by omega)).mono ?_
  rintro e w5 ⟨Ak, ck, rfl, hown5, hb5⟩
  rw [hn] at hown5
  have Hown5 := Lib.hid (own_base hown5 Hb3.out.size)
  have Hb5 := Lib.hid (Hb3.out.trans (hb5.mono Hb3.out.size))
  have Hone5 := Lib.hid (Hone.out.below hb5)
  have Hv5 := Lib.hid (Hv3.out.below hb5)
  clear hown5 hb5 hw0 hw3 hb2' hnl
  go_wp2
  go_loopw [4, 17] (fun tv iv wr => ∃ A c i, tv = .slice A (i + 1) c ∧ iv = .int .i64 ((i : Nat) : Int) ∧ i ≤ n ∧ CpAt w B m x Ak ck A c i wr) (fun _ iv _ => n - (intOf iv).toNat)
  case atStart => exact ⟨_, 1, 0, rfl, rfl, Nat.zero_le _, by have := Hone5.out; rw [← Hn.out] at this; exact this, Hv5.out, by rw [Hn.out]; exact Hown5.out, Hb5.out⟩
  case round =>
    obtain ⟨A, c, i, rfl, rfl, hin, hts, hv, hks, hbw⟩ := hrel
    have Hv := Lib.hid hv; have Hks := Lib.hid hks; have Hbw := Lib.hid hbw; have Hts := Lib.hid hts
    clear hv hks hbw hts
    by_cases hlt : i < n
    · obtain ⟨p, hp⟩ : ∃ p, x[i]? = some p := ⟨x[i]'(by omega), List.getElem?_eq_getElem _⟩
      have hpx := hx.all p (List.mem_of_getElem? hp)
      have hkt := keyText_len hpx.2.1 hpx.2.2
      have Hp := Lib.hid hp
      have hkl := numB_len9 (n := p.1.toNat) (by omega)
      have hks := Seen.of_own Hks.out
      obtain ⟨gk, ok, hAk, hck⟩ := hks.at_ (j := i) (by rw [keysV_length, Hn.out]; exact hlt)
      rw [show (keysV x)[i]'(by rw [keysV_length, Hn.out]; exact hlt) = .int .i64 p.1 by
        have := (List.getElem?_eq_some_iff.1 hp).2
        simp only [keysV, List.getElem_map, this]] at hck
      subst hAk
      obtain ⟨w6, hw6⟩ : ∃ w6, wr.alloc (.cells #[.slice none 0 0] 120) = w6 := ⟨_, rfl⟩
      have Z6 := Lib.hid (show IsW w6 wr.heap.size wr.heap.size none [] by rw [← hw6]; exact IsW.zero wr _ (Nat.le_refl _))
      have Hb6 := Lib.hid (show Below wr.heap.size wr w6 by rw [← hw6]; exact (Below.refl _ _).alloc (Nat.le_refl _) _)
      clear hp hks
      go_wp2_with fail
      refine (WNum_any _ _ none [] p.1 w6 Z6.out (by simp) (by omega) (by omega)).mono ?_
      rintro e w7 ⟨rfl, hg7⟩
      have Hb7 := Lib.hid (Hb6.out.trans (GrewW.below Z6.out hg7))
      obtain ⟨r7, hw7, _, _⟩ := hg7
      rw [List.nil_append] at hw7
      have Hw7 := Lib.hid hw7
      clear hw7
      go_wp2_with (at_lookup; refine wpList_getV0 wr rfl _ _ rfl B m x p.1 rfl rfl Hv.out Hb7.out (by omega) (by omega) ?_; intro Av nv cv bs hbs hgot; have Hbs := Lib.hid hbs; have Hgot := Lib.hid hgot; clear hbs hgot)
      have hpb : (p.1, bs) = p := by
        rcases Hgot.out.2 with ⟨_, h2⟩ | ⟨h2, _, _⟩
        · exact rising_one hx.up h2 (List.mem_of_getElem? Hp.out) rfl
        · rw [(hasV_iff (x := x) (k := p.1)).2 ⟨p, List.mem_of_getElem? Hp.out, rfl⟩] at h2; cases h2
      have hbl : bs.length ≤ 900 := by rw [← hpb] at hpx; exact hpx.2.2
      have hkt2 : numB p.1.toNat ++ (numB nv ++ bs) = keyText p := by
        unfold keyText
        rw [← Hbs.out]
        rw [show p.2 = bs from (congrArg Prod.snd hpb).symm]
      have Hkt2 := Lib.hid hkt2
      have hnvl := Hbs.out
      refine (WText_any _ _ r7 (numB p.1.toNat) bs Av nv cv w7 Hw7.out (by omega) Hbs.out (by omega) (fun w' ht => (Seen.of_own (show wr.ownsRow B 5 1 (.slice Av nv cv) nv (bytesV bs) by have := Hgot.out.1; rwa [Hbs.out] at this)).below (Hb7.out.trans (ht.below (fun k hk => by
        rcases hk with rfl | hk
        · exact Nat.le_refl _
        · exact (Hw7.out.lt.2 k hk).1) Hb7.out.size)))).mono ?_
      rintro e w8 ⟨rfl, hg8⟩
      have Hb8 := Lib.hid (Hb7.out.trans (GrewW.below Hw7.out hg8))
      obtain ⟨r8, hw8, _, _⟩ := hg8
      rw [Hkt2.out] at hw8
      have Hw8 := Lib.hid hw8
      clear hw8 hkt2
      go_wp2_with fail
      refine (WBytes_any _ _ r8 (keyText p) w8 Hw8.out (by omega)).mono ?_
      rintro e w9 ⟨At, ct, rfl, hown9, hb9⟩
      rw [bytes_length] at hown9 ⊢
      obtain ⟨T, hT⟩ : ∃ T, (keyText p).length = T := ⟨_, rfl⟩
      rw [hT] at hown9 hkt ⊢
      have Hb9 := Lib.hid (Hb8.out.trans (hb9.mono Hb8.out.size))
      have Hts9 := Lib.hid (Hts.out.below Hb9.out)
      obtain ⟨hn9, ls, k1, k2, k3, k4⟩ := Hts9.out
      have K1 := Lib.hid k1; have K2 := Lib.hid k2; have K3 := Lib.hid k3; have K4 := Lib.hid k4
      have Hown9 := Lib.hid hown9
      have Hrow := Lib.hid (show ∀ k, (Value.slice A (i + 1) c).ownBlock = some k → k < w8.heap.size from fun k hk => by
        obtain ⟨_, ls', k1', _⟩ := Hts.out
        have := (k1'.lt k hk).2
        have := Hb8.out.size
        omega)
      have H5 := Lib.hid (show w.heap.size ≤ w8.heap.size from Nat.le_trans Hbw.out.size Hb8.out.size)
      have HT := Lib.hid hT; have Hn9 := Lib.hid hn9
      have Hv9 := Lib.hid ((Hv.out.below Hb9.out).below ((Below.refl w9.heap.size w9).alloc (Nat.le_refl _) (.cells #[.slice At T ct] 31)))
      have Hk9 := Lib.hid (own_below (own_below Hks.out Hb9.out) ((Below.refl w9.heap.size w9).alloc (Nat.le_refl _) (.cells #[.slice At T ct] 31)))
      have hb9' := Hbw.out.trans (Hb9.out.mono Hbw.out.size)
      have Hbw9 := Lib.hid hb9'
      have hw9 : w.heap.size ≤ w9.heap.size := hb9'.size
      clear k1 k2 k3 k4 hb9 hT hown9 hn9 hb9' hw6 hck hpb
      go_wp2_with (at_builtin; refine wpList_app2 rfl (.tmp 27) (.tmp 29) _ rfl 31 _ 24 Tryz.underlying80 texts_info rfl w.heap.size A (i + 1) c (listsV ls) rfl (K1.out.alloc _) (some ⟨w9.heap.size, 0, none⟩) 1 1 [.slice At T ct] rfl rfl (Seen.of_cells (heap_alloc_new w9 _)) (by simp [Value.oneCell']) (by unfold maxLen; omega) (by omega) (by simp; omega) ?_; intro A7 c7 wz hown7 hg7 hr7; have Hts7 := Lib.hid (TextsAt.snoc Hn9.out K2.out K3.out K4.out K1.out HT.out (by omega) H5.out Hown9.out Hrow.out ((Below.refl w9.heap.size w9).alloc (Nat.le_refl _) _) hg7 hr7 hown7); have Hb7' := Lib.hid (((Below.refl w.heap.size w9).alloc hw9 _).grown hg7 (by simp; omega) (fun k hk => (K1.out.lt k hk).1)); have Hvz := Lib.hid (vals_grown Hv9.out (K1.out.alloc _) hg7 (by decide)); have Hkz := Lib.hid (own_grown Hk9.out (K1.out.alloc _) hg7 (by decide)); clear hown7 hg7 hr7)
      go_roundw
      case rel => exact ⟨A7, c7, i + 1, rfl, by go_num, by omega, by have := Hts7.out; rwa [cp_snoc Hp.out] at this, Hvz.out, Hkz.out, Hbw9.out.trans Hb7'.out⟩
      case measure => simp [intOf]; omega
    · obtain rfl : i = n := by omega
      go_wp2
      go_ret
      have := Hts.out
      rw [List.take_of_length_le (by rw [cpTexts_length, Hn.out]; omega)] at this
      rw [Hn.out]
      exact ⟨A, c, rfl, this, Hbw.out⟩
end Go.Proofs.YtjekcaoonaniaaaGreat

namespace Go.Proofs.YtjekcaoonaniaaaGreat
open Go.ChangeShapes Go.WideShapes Go.ChangeAt Go.RowKit Go.Maps
set_option linter.unusedVariables false

/-- texts that are read through a slice -/
def TextsSeen (w : World) (A : Option Addr) (ts : List (List UInt8)) : Prop := ∃ ls, Seen w A (listsV ls) ∧ Lists w ls ts
theorem TextsAt.seen {w0 w : World} {A : Option Addr} {n c : Nat} {ts : List (List UInt8)} (h : TextsAt w0 A n c ts w) : TextsSeen w A ts := by
  obtain ⟨_, ls, h1, h2, _⟩ := h
  exact ⟨ls, Seen.of_own h1, h2⟩
theorem TextsSeen.below {w w' : World} {A : Option Addr} {ts : List (List UInt8)} (h : TextsSeen w A ts) (hb : Below w.heap.size w w') : TextsSeen w' A ts := by
  obtain ⟨ls, h1, h2⟩ := h
  exact ⟨ls, h1.below hb, h2.below hb⟩
theorem listsV_length (ls : List (Option Addr × Nat × Nat)) : (listsV ls).length = ls.length := by simp [listsV]
theorem TextsSeen.at_ {w : World} {A : Option Addr} {ts : List (List UInt8)} (h : TextsSeen w A ts) {i : Nat} {t : List UInt8} (hi : ts[i]? = some t) :
    ∃ g o At nt ct, A = some ⟨g, o, none⟩ ∧ w.cell? ⟨g, o + i, none⟩ = some (.slice At nt ct) ∧ t.length = nt ∧ nt ≤ 1000000 ∧ Seen w At (bytesV t) := by
  obtain ⟨ls, h1, h2, h3⟩ := h
  have hlt := (List.getElem?_eq_some_iff.1 hi).1
  obtain ⟨g, o, hA, hc⟩ := h1.at_ (j := i) (by rw [listsV_length, h2]; exact hlt)
  obtain ⟨⟨At, nt, ct⟩, hl⟩ : ∃ l, ls[i]? = some l := ⟨ls[i]'(by omega), List.getElem?_eq_getElem _⟩
  obtain ⟨b, hb, hn, hn6, hs⟩ := h3 i At nt ct hl
  rw [hi] at hb
  injection hb with hb
  subst hb
  refine ⟨g, o, At, nt, ct, hA, ?_, hn, hn6, hs⟩
  rw [hc]
  have := (List.getElem?_eq_some_iff.1 hl).2
  simp only [listsV, List.getElem_map, this]
/-- the texts from the second on -/
theorem TextsSeen.tail {w : World} {A : Option Addr} {t : List UInt8} {ts : List (List UInt8)} {c : Nat} (h : TextsSeen w A (t :: ts)) (hc : ts.length + 1 ≤ c) : TextsSeen w (if c = 1 then A else A.map (·.add 1)) ts := by
  obtain ⟨ls, h1, h2, h3⟩ := h
  refine ⟨ls.drop 1, ?_, ?_, fun i A n c hi => ?_⟩
  · have := h1.drop (k := 1) (cap := c) (by rw [listsV_length, h2]; simpa using hc)
    rwa [listsV, ← List.map_drop] at this
  · rw [List.length_drop, h2]; simp
  · rw [List.getElem?_drop] at hi
    obtain ⟨b, hb, r⟩ := h3 (1 + i) A n c hi
    rw [show 1 + i = i + 1 by omega, List.getElem?_cons_succ] at hb
    exact ⟨b, hb, r⟩

theorem valuesOf_nil (A : Option Addr) (c : Nat) (w : World) :
    Calls Tryz.prog 35 #[.slice A 0 c] w fun e w' => e = .returned (.tuple #[.map none, .bool false]) ∧ w = w' := by
  go_enter Tryz.func35, Tryz.ntmps35
  go_wp2
  go_ret2
  exact ⟨rfl, rfl⟩

/-- the least key that may come -/
def leastOf (x : Vals) (i : Nat) : Int := if i = 0 then 0 else ((x[i - 1]?).map fun p => p.1 + 1).getD 0
theorem leastOf_succ {x : Vals} {i : Nat} {p : Int × List UInt8} (h : x[i]? = some p) : leastOf x (i + 1) = p.1 + 1 := by
  unfold leastOf
  rw [if_neg (by omega), Nat.add_sub_cancel, h]
  rfl
theorem leastOf_le {x : Vals} (hx : GoodV x) {i : Nat} {p : Int × List UInt8} (h : x[i]? = some p) : leastOf x i ≤ p.1 := by
  unfold leastOf
  split
  · exact (hx.all p (List.mem_of_getElem? h)).1
  · rename_i hi
    have hlt := (List.getElem?_eq_some_iff.1 h).1
    obtain ⟨q, hq⟩ : ∃ q, x[i - 1]? = some q := ⟨x[i - 1]'(by omega), List.getElem?_eq_getElem _⟩
    rw [hq]
    have h1 := (List.getElem?_eq_some_iff.1 hq).2
    have h2 := (List.getElem?_eq_some_iff.1 h).2
    have := List.pairwise_iff_getElem.1 hx.up (i - 1) i (by omega) hlt (by omega)
    rw [h1, h2] at this
    simp only [Option.map_some, Option.getD_some]
    omega
theorem put_take {x : Vals} (hx : Rising x) {i : Nat} {p : Int × List UInt8} (h : x[i]? = some p) : putV (x.take i) p.1 p.2 = x.take (i + 1) := by
  obtain ⟨hlt, e⟩ := List.getElem?_eq_some_iff.1 h
  rw [putV_last, List.take_succ_eq_append_getElem hlt, e]
  intro q hq
  obtain ⟨j, hj, rfl⟩ := List.mem_iff_getElem.1 hq
  rw [List.length_take] at hj
  rw [List.getElem_take, ← e]
  exact List.pairwise_iff_getElem.1 hx j i (by omega) hlt (by omega)

/-- where the loop stands -/
def OfAt (w : World) (m : Nat) (x : Vals) (i : Nat) (wr : World) : Prop := ValsAt wr w.heap.size m (x.take i) ∧ Below w.heap.size w wr

set_option maxRecDepth 100000 in
set_option maxHeartbeats 2000000 in
theorem valuesOf_cp (x : Vals) (A : Option Addr) (n c : Nat) (w : World) (hx : GoodV x) (hn : x.length = n) (hl : n ≤ 10000) (hc : n + 1 ≤ c) (hcm : c ≤ maxLen) (h : TextsSeen w A (cpTexts x)) :
    Calls Tryz.prog 35 #[.slice A (n + 1) c] w fun e w' => ∃ m, e = .returned (.tuple #[.map (some m), .bool true]) ∧ ValsAt w' w.heap.size m x ∧ Below w.heap.size w w' := by
  have H := Lib.hid h
  have Hn := Lib.hid hn
  have htail := Lib.hid (h.tail (c := c) (by simp; omega))
  obtain ⟨g, o, At, nt, ct, rfl, hcell, hnt, hnt6, hseen⟩ := h.at_ (i := 0) (t := numB x.length) (by simp [cpTexts])
  rw [hn] at hnt hseen
  have Hnt := Lib.hid hnt; have Hseen := Lib.hid hseen
  have hnl := numB_len9 (n := n) (by omega)
  have hne : ¬ (n : Int) + 1 = 0 := by omega
  have hpos : (0 : Int) < (n : Int) + 1 := by omega
  clear h hn hnt hseen
  have hz : ((n : Int) + 1 == 0) = false := by simp; omega
  rw [Nat.add_zero] at hcell
  go_enter Tryz.func35, Tryz.ntmps35
  go_wp2_with fail
  refine (NewR_any At nt ct (numB n) w Hnt.out hnt6 Hseen.out).mono ?_
  rintro e w1 ⟨gr, rfl, hgr, hr1, hb1⟩
  have Hb1 := Lib.hid hb1; have Hr1 := Lib.hid hr1
  clear hb1 hr1 hcell
  have r1 : rdNum (numB n) 0 (n : Int) = (n, [], 0) := by
    have := rdNum_numB (a := n) (most := (n : Int)) (Int.le_refl _) (by omega) []
    rwa [List.append_nil] at this
  have R1 := Lib.hid r1; clear r1
  go_wp2_with fail
  refine (VNum_is gr 0 (numB n) (n : Int) w1 Hr1.out (by omega) (by omega) R1.out).mono ?_
  rintro e w2 ⟨rfl, hr2, ht2⟩
  have Hb2 := Lib.hid (Hb1.out.trans (ht2.below (fun k hk => by rw [hk]; exact hgr) Hb1.out.size))
  have Hr2 := Lib.hid hr2
  clear hr2 ht2
  go_wp2_with fail
  refine (End_any gr 0 [] w2 Hr2.out).mono ?_
  rintro e w3 ⟨rfl, rfl⟩
  have Hv3 := Lib.hid (ValsAt.made w2 (B := w.heap.size) Hb2.out.size)
  have hmm := @run_makeMap Tryz.prog
  have Hb3 := Lib.hid (Hb2.out.alloc Hb2.out.size (.map #[] 0))
  obtain ⟨m, hm⟩ : ∃ m, w2.heap.size = m := ⟨_, rfl⟩
  rw [hm] at Hv3
  obtain ⟨w3, hw3⟩ : ∃ w3, w2.alloc (.map #[] 0) = w3 := ⟨_, rfl⟩
  rw [hw3] at Hv3 Hb3
  have hb1 : (1 : Int) ≤ (n : Int) + 1 := by omega
  have hb2 : (1 : Int) ≤ 1 + (n : Int) := by omega
  have hb3 : 1 + (n : Int) ≤ (c : Int) := by omega
  by_cases hc1 : c = 1
  · obtain rfl : n = 0 := by omega
    subst hc1
    go_wp2
    go_loopw [7, 34] (fun lv iv wr => lv = .int .i64 0 ∧ iv = .int .i64 0 ∧ wr = w3) (fun _ _ _ => 0)
    case atStart => exact ⟨rfl, rfl, rfl⟩
    case round =>
      obtain ⟨rfl, rfl, rfl⟩ := hrel
      go_wp2
      go_ret2
      have hx0 : x = [] := List.eq_nil_of_length_eq_zero Hn.out
      exact ⟨m, rfl, by rw [hx0]; exact Hv3.out, Hb3.out⟩
  · rw [if_neg hc1] at htail
    clear hcm
    go_wp2
    rw [show 1 + n - 1 = n by omega]
    clear hw3 hm hmm
    go_loopw [7, 34] (fun lv iv wr => ∃ i, lv = .int .i64 (leastOf x i) ∧ iv = .int .i64 ((i : Nat) : Int) ∧ i ≤ n ∧ OfAt w m x i wr) (fun _ iv _ => n - (intOf iv).toNat)
    case atStart => exact ⟨0, rfl, rfl, Nat.zero_le _, Hv3.out, Hb3.out⟩
    case round =>
      obtain ⟨i, rfl, rfl, hin, hv, hbw⟩ := hrel
      have Hv := Lib.hid hv; have Hbw := Lib.hid hbw
      clear hv hbw
      by_cases hlt : i < n
      · obtain ⟨p, hp⟩ : ∃ p, x[i]? = some p := ⟨x[i]'(by have := Hn.out; omega), List.getElem?_eq_getElem _⟩
        have hpx := hx.all p (List.mem_of_getElem? hp)
        have hle := leastOf_le hx hp
        have hsc := leastOf_succ hp
        have hpt := put_take hx.up hp
        have Hsc := Lib.hid hsc; have Hpt := Lib.hid hpt
        have hkt := keyText_len hpx.2.1 hpx.2.2
        obtain ⟨g2, o2, Ai, ni, ci, hA2, hcell, hni, hni6, hsi⟩ := (htail.out.below Hbw.out).at_ (i := i) (t := keyText p) (by rw [List.getElem?_map, hp]; rfl)
        simp only [Option.map_some, Addr.add_lit, Option.some.injEq, Addr.mk.injEq] at hA2
        obtain ⟨rfl, rfl, _⟩ := hA2
        have Hsi := Lib.hid hsi; have Hni := Lib.hid hni
        clear hsi hni hp hsc hpt
        go_wp2_with fail
        refine (NewR_any Ai ni ci (keyText p) wr Hni.out hni6 Hsi.out).mono ?_
        rintro e w5 ⟨gq, rfl, hgq, hr5, hb5⟩
        have Hb5 := Lib.hid hb5; have Hr5 := Lib.hid hr5
        clear hb5 hr5 hcell
        have r1 : rdNum (keyText p) 0 1099511627776 = (p.1.toNat, numB p.2.length ++ p.2, 0) := rdNum_numB (by omega) (by omega) _
        have R1' := Lib.hid r1; clear r1
        go_wp2_with fail
        refine (VNum_is gq 0 (keyText p) 1099511627776 w5 Hr5.out (by omega) (by omega) R1'.out).mono ?_
        rintro e w6 ⟨rfl, hr6, ht6⟩
        rw [Int.toNat_of_nonneg hpx.1]
        have Hb6 := Lib.hid (Hb5.out.trans (ht6.below (fun k hk => by rw [hk]; exact hgq) Hb5.out.size))
        have Hr6 := Lib.hid hr6
        clear hr6 ht6
        have r2 : rdText (numB p.2.length ++ p.2) 0 900 = (p.2, [], 0) := by
          have := rdText_text (b := p.2) (most := 900) (by omega) (by omega) []
          rwa [List.append_nil] at this
        have R2' := Lib.hid r2; clear r2
        go_wp2_with fail
        refine (VText_is gq 0 _ 900 w6 Hr6.out (by omega) (by omega) R2'.out rfl).mono ?_
        rintro e w7 ⟨A7, c7, rfl, hown7, hr7, ht7⟩
        have Hb7 := Lib.hid (Hb6.out.trans (ht7.below (fun k hk => by rw [hk]; exact hgq) Hb6.out.size))
        have Hr7 := Lib.hid hr7
        have Hown7 := Lib.hid (own_base hown7 (show w.heap.size ≤ w6.heap.size from Nat.le_trans Hbw.out.size Hb6.out.size))
        have Hv7 := Lib.hid (Hv.out.below Hb7.out)
        clear hr7 ht7 hown7
        go_wp2_with fail
        refine (End_any gq 0 [] w7 Hr7.out).mono ?_
        rintro e w8 ⟨rfl, rfl⟩
        have hdl : decide (p.1 < leastOf x i) = false := decide_eq_false (by omega)
        have htl : (x.take i).length ≤ 1000000 := by rw [List.length_take]; omega
        go_wp2_with (at_mapUpdate; go_loud (refine wpList_putV rfl _ _ _ rfl w.heap.size m (x.take i) p.1 (.slice A7 p.2.length c7) p.2 rfl rfl rfl Hv7.out (by omega) (by omega) htl Hown7.out ?_; intro w9 hv9 ht9; have Hv9 := Lib.hid hv9; have Ht9 := Lib.hid ht9; clear hv9 ht9))
        go_roundw
        case rel =>
          have hb9 : Below w.heap.size w w9 := (Hbw.out.trans (Hb7.out.mono Hbw.out.size)).trans (Ht9.out.below (fun k hk => by rw [hk]; exact Hv.out.lt.1) (Nat.le_trans Hbw.out.size Hb7.out.size))
          (repeat apply Exists.intro)
          refine ⟨⟨i + 1, ?_, ?_, by omega, by rw [← Hpt.out]; exact Hv9.out, hb9⟩, ?_⟩
          rotate_left 2
          · rfl
          · rw [Hsc.out]
          · go_num
        case measure => simp [intOf]; omega
      · obtain rfl : i = n := by omega
        go_wp2
        go_ret2
        have := Hv.out
        rw [List.take_of_length_le (by rw [Hn.out]; exact Nat.le_refl _)] at this
        exact ⟨m, rfl, this, Hbw.out⟩

/-! ### sectorsOf -/
theorem secsUp_take {gen : Nat} {ts : List (List UInt8)} {i : Nat} {t : List UInt8} (h : ts[i]? = some t) : secsUp gen 0 (ts.take (i + 1)) = secsUp gen 0 (ts.take i) + manyOf gen i t := by
  obtain ⟨hlt, e⟩ := List.getElem?_eq_some_iff.1 h
  rw [List.take_succ_eq_append_getElem hlt, secsUp_snoc, Nat.zero_add, List.length_take, Nat.min_eq_left (by omega), e]
theorem secsUp_small {gen : Nat} (hg : gen ≤ 1099511627776) : ∀ {ts : List (List UInt8)} {k : Nat}, (∀ t ∈ ts, t.length ≤ 930) → k + ts.length ≤ 1000000 → secsUp gen k ts ≤ 16 * ts.length
  | [], _, _, _ => Nat.le_refl _
  | t :: r, k, h, hk => by
    have h1 := many_small (gen := gen) (n := k) (t := t) hg (by simp at hk; omega) (h t (by simp))
    have h2 := secsUp_small hg (ts := r) (k := k + 1) (fun u hu => h u (by simp [hu])) (by simp at hk; omega)
    simp only [secsUp, List.length_cons]
    omega
set_option maxRecDepth 100000 in
set_option maxHeartbeats 2000000 in
theorem vsectorsOf_any (gen : Nat) (ts : List (List UInt8)) (A : Option Addr) (n c : Nat) (w : World) (hg : gen ≤ 1099511627776) (hn : ts.length = n) (hl : n ≤ 100000) (hsm : ∀ t ∈ ts, t.length ≤ 930) (h : TextsSeen w A ts) :
    Calls Tryz.prog 40 #[.int .i64 (gen : Int), .slice A n c] w fun e w' => e = .returned (.int .i64 (secsUp gen 0 ts : Int)) ∧ Below w.heap.size w w' := by
  have H := Lib.hid h
  have Hn := Lib.hid hn
  have Hsm := Lib.hid hsm
  have Hsec := Lib.hid (fun i => secsUp_small (gen := gen) hg (ts := ts.take i) (k := 0) (fun t ht => hsm t (List.mem_of_mem_take ht)) (by rw [List.length_take]; omega))
  clear h hsm
  go_enter Tryz.func40, Tryz.ntmps40
  go_wp2
  go_loopw [5, 12] (fun mv iv wr => ∃ i, mv = .int .i64 (secsUp gen 0 (ts.take i) : Int) ∧ iv = .int .i64 ((i : Nat) : Int) ∧ i ≤ n ∧ Below w.heap.size w wr) (fun _ iv _ => n - (intOf iv).toNat)
  case atStart => exact ⟨0, rfl, rfl, Nat.zero_le _, Below.refl _ _⟩
  case round =>
    obtain ⟨i, rfl, rfl, hin, hbw⟩ := hrel
    have Hbw := Lib.hid hbw
    clear hbw
    by_cases hlt : i < n
    · obtain ⟨t, ht⟩ : ∃ t, ts[i]? = some t := ⟨ts[i]'(by omega), List.getElem?_eq_getElem _⟩
      have hok : formE gen i t = 0 := form_ok hg (by omega) (Hsm.out t (List.mem_of_getElem? ht))
      have hm16 := many_small (gen := gen) (n := i) (t := t) hg (by omega) (Hsm.out t (List.mem_of_getElem? ht))
      have Hst := Lib.hid (secsUp_take (gen := gen) ht)
      have hsu := Hsec.out i
      rw [List.length_take] at hsu
      obtain ⟨g, o, At, nt, ct, rfl, hcell, hnt, hnt6, hseen⟩ := (H.out.below Hbw.out).at_ ht
      have Hok := Lib.hid hok; have Hnt := Lib.hid hnt; have Hseen := Lib.hid hseen
      obtain ⟨sv, hsv⟩ : ∃ sv, secsUp gen 0 (ts.take i) = sv := ⟨_, rfl⟩
      rw [hsv] at hsu Hst ⊢
      clear ht hok hnt hseen hsv
      go_wp2_with fail
      refine (Form_any (gen : Int) (i : Int) At nt ct t wr (by omega) (by omega) (by omega) (by omega) Hnt.out Hseen.out).mono ?_
      rintro e w1 ⟨hb1, (⟨h1, _⟩ | ⟨_, gf, rfl, hgf, hblk⟩)⟩
      · exact absurd Hok.out h1
      · rw [Int.toNat_natCast, Int.toNat_natCast]
        have Hb1 := Lib.hid (Hbw.out.trans (hb1.mono Hbw.out.size))
        obtain ⟨mm, hmm⟩ : ∃ mm, manyOf gen i t = mm := ⟨_, rfl⟩
        rw [hmm] at Hst hm16 ⊢
        have hq : ((64 * mm : Nat) : Int) / 64 = (mm : Int) := by omega
        clear hb1 hblk hmm hcell
        go_wp2
        go_roundw
        case rel => exact ⟨i + 1, by rw [Hst.out]; go_num, by go_num, by omega, Hb1.out⟩
        case measure => simp [intOf]; omega
    · obtain rfl : i = n := by omega
      go_wp2
      go_ret
      rw [List.take_of_length_le (by rw [Hn.out]; exact Nat.le_refl _)]
      exact ⟨rfl, Hbw.out⟩
end Go.Proofs.YtjekcaoonaniaaaGreat
