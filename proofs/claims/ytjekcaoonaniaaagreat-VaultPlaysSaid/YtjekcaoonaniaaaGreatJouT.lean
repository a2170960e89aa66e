/-
  Contract of journal.textOf: the text of the record whose form these bytes are, or none.
-/
import Derived.Test.YtjekcaoonaniaaaGreatJouF
import Derived.Test.YtjekcaoonaniaaaGreatBytesEq
namespace Go.Proofs.YtjekcaoonaniaaaGreat
open Go.ChangeShapes Go.WideShapes Go.ChangeAt Go.RowKit
set_option linter.unusedVariables false

/-- what is read of fields: a number, a number, a text -/
def rd1 (fs : List UInt8) := rdNum fs 0 1099511627776
def rd2 (fs : List UInt8) := rdNum (rd1 fs).2.1 (rd1 fs).2.2 1099511627776
def rd3 (fs : List UInt8) := rdText (rd2 fs).2.1 (rd2 fs).2.2 (fs.length : Int)
theorem rdNum_num {n : Nat} {most : Int} {r : List UInt8} (h : n < 9223372036854775808) (hm : (n : Int) ≤ most) : rdNum (numB n ++ r) 0 most = (n, r, 0) := by
  unfold rdNum
  rw [numR_numB h, if_neg (by simp), if_neg (by simp), if_neg (by simp only; omega)]
  simp
theorem rd_fields {gen n : Nat} {t : List UInt8} (hg : gen ≤ 1099511627776) (hn : n ≤ 1099511627776) (ht : t.length ≤ 1014) : (rd3 (fieldsOf gen n t)).1 = t := by
  have h1 : rd1 (fieldsOf gen n t) = (gen, numB n ++ (numB t.length ++ t), 0) := by
    unfold rd1 fieldsOf
    rw [List.append_assoc, rdNum_num (by omega) (by omega)]
  have h2 : rd2 (fieldsOf gen n t) = (n, numB t.length ++ t, 0) := by
    unfold rd2
    rw [h1, rdNum_num (by omega) (by omega)]
  unfold rd3
  rw [h2]
  unfold rdText
  rw [rdNum_num (by omega) (by have := fields_length gen n t; omega)]
  simp

/-- of the record whose form these bytes are -/
def IsForm (gen k : Nat) (t f : List UInt8) : Prop := formE gen k t = 0 ∧ formX 1 gen k t = f
/-- the rest, as these bytes say -/
def restOfB (f : List UInt8) : List UInt8 := (f.drop 3).take (restN f)
theorem isForm_rest {gen k : Nat} {t f : List UInt8} (h : IsForm gen k t f) : restOfB f = restB gen k t :=
  (form_says (formE_nat h.1).2.2 (by rw [h.2]; exact List.prefix_refl _)).2.2.1
theorem isForm_text {gen k : Nat} {t f : List UInt8} (h : IsForm gen k t f) : (rd3 ((restOfB f).take ((restOfB f).length - 4))).1 = t := by
  obtain ⟨a, b, c⟩ := formE_nat h.1
  have e : (restOfB f).take ((restOfB f).length - 4) = fieldsOf gen k t := by
    rw [isForm_rest h, rest_length, Nat.add_sub_cancel]
    exact List.take_left
  rw [e]
  exact rd_fields a b (text_small c)

/-- what textOf hands back -/
def TxtRet (gen k : Nat) (f : List UInt8) (w : World) (en : Ending) (w' : World) : Prop :=
  Below w.heap.size w w' ∧
  ((∃ t A c, en = .returned (.tuple #[.slice A t.length c, .bool true]) ∧ w'.ownsRow w.heap.size 5 1 (.slice A t.length c) t.length (bytesV t) ∧ IsForm gen k t f) ∨
   (en = .returned (.tuple #[.slice none 0 0, .bool false]) ∧ ∀ t, ¬ IsForm gen k t f))

set_option maxRecDepth 100000 in
set_option maxHeartbeats 4000000 in
theorem textOf_any (gen k : Nat) (A : Option Addr) (n c : Nat) (f : List UInt8) (w : World) (hg : gen ≤ 1099511627776) (hk : k ≤ 1099511627776) (hn : f.length = n) (h64 : 64 ≤ n) (h3 : 3 + restN f ≤ n) (hnc : n ≤ c) (hcm : c ≤ maxLen) (hn6 : n ≤ 100000) (hs : Seen w A (bytesV f)) :
    Calls Tryz.prog 57 #[.slice A n c, .int .i64 (gen : Int), .int .i64 (k : Int)] w (TxtRet gen k f w) := by
  obtain ⟨g, o, hA, _⟩ : ∃ g o, A = some ⟨g, o, none⟩ ∧ ∀ (j : Nat) v, (bytesV f)[j]? = some v → w.cell? ⟨g, o + j, none⟩ = some v := by
    rcases hs with e | h
    · have := congrArg List.length e
      rw [bytes_length, hn] at this
      simp at this
      omega
    · exact h
  subst hA
  obtain ⟨q, hq⟩ : ∃ q, restN f = q := ⟨_, rfl⟩
  rw [hq] at h3
  have hrl : (restOfB f).length = q := by unfold restOfB; rw [List.length_take, List.length_drop, hq]; omega
  have Hs := Lib.hid hs; clear hs
  have Hn := Lib.hid hn; clear hn
  have Hq := Lib.hid hq; clear hq
  have Hrl := Lib.hid hrl; clear hrl
  have q1 : (3 : Int) ≤ 3 + (q : Int) := by omega
  have q2 : 3 + (q : Int) ≤ (c : Int) := by omega
  have q3 : ¬ c = 3 := by omega
  have q4 : 3 + q ≤ c := by omega
  go_enter Tryz.func57, Tryz.ntmps57
  go_wp2_with fail
  refine (restOf_any (some ⟨g, o, none⟩) n c f w Hn.out (by omega) Hs.out).mono ?_
  rintro e w1 ⟨rfl, hb1⟩
  rw [Hq.out]
  have Hb1 := Lib.hid hb1; clear hb1
  have Hs1 := Lib.hid (show Seen w1 (some ⟨g, o + 3, none⟩) (bytesV (restOfB f)) from seen_take _ (seen_drop_n (K := 3) q3 (Hs.out.below Hb1.out) (by rw [Hn.out]; exact hnc)))
  obtain ⟨bq, hbq⟩ : ∃ b, openB (restOfB f) = b := ⟨_, rfl⟩
  have Hbq := Lib.hid hbq; clear hbq
  cases bq with
  | false =>
    have hno : ∀ t, ¬ IsForm gen k t f := fun t h => by
      have := Hbq.out
      rw [isForm_rest h] at this
      unfold restB at this
      rw [openB_seal] at this
      cases this
    have Hno := Lib.hid hno; clear hno
    go_wp2_with fail
    refine (Open_no _ q (c - 3) (restOfB f) w1 Hrl.out (by omega) (by omega) (by omega) Hs1.out Hbq.out).mono ?_
    rintro e w2 ⟨rfl, hb2⟩
    have Hb2 := Lib.hid (Hb1.out.trans (hb2.mono Hb1.out.size)); clear hb2
    go_wp2
    go_ret2
    exact ⟨Hb2.out, .inr ⟨rfl, Hno.out⟩⟩
  | true =>
    go_wp2_with fail
    refine (Open_yes _ q (c - 3) (restOfB f) w1 Hrl.out (by omega) (by omega) (by omega) Hs1.out Hbq.out).mono ?_
    rintro e w2 ⟨A2, c2, rfl, hown2, hb2⟩
    obtain ⟨fs, hfs⟩ : ∃ fs, (restOfB f).take (q - 4) = fs := ⟨_, rfl⟩
    rw [hfs, bytes_length] at hown2
    rw [hfs, bytes_length]
    have hyes : ∀ t, IsForm gen k t f → (rd3 fs).1 = t := fun t h => by rw [← hfs, ← Hrl.out]; exact isForm_text h
    have Hyes := Lib.hid hyes; clear hyes
    obtain ⟨m, hm⟩ : ∃ m, fs.length = m := ⟨_, rfl⟩
    have hmq : m ≤ 100000 := by rw [← hm, ← hfs, List.length_take]; omega
    rw [hm] at hown2 ⊢
    have Hs2 := Lib.hid (Seen.of_own hown2)
    have Hb2 := Lib.hid (Hb1.out.trans (hb2.mono Hb1.out.size))
    have Hm := Lib.hid hm
    clear hm hfs hown2 hb2
    go_wp2_with fail
    refine (NewR_any A2 m c2 fs w2 Hm.out (by omega) Hs2.out).mono ?_
    rintro e w3 ⟨gr, rfl, hgr, hr3, hb3⟩
    have Hb3 := Lib.hid (Hb2.out.trans (hb3.mono Hb2.out.size))
    have Hr3 := Lib.hid hr3
    have hgb : w.heap.size ≤ gr := Nat.le_trans Hb2.out.size hgr
    clear hr3 hb3 hgr
    go_wp2_with fail
    refine (RNum_any gr 0 fs 1099511627776 w3 Hr3.out (by omega) (by omega)).mono ?_
    rintro e w4 ⟨rfl, hr4, ht4⟩
    have Hr4 := Lib.hid (show IsR w4 gr (rd1 fs).2.1 (rd1 fs).2.2 from hr4)
    have Hb4 := Lib.hid (Hb3.out.trans (ht4.below (fun k e => by rw [e]; exact hgb) Hb3.out.size))
    clear hr4 ht4
    go_wp2_with fail
    refine (RNum_any gr (rd1 fs).2.2 (rd1 fs).2.1 1099511627776 w4 Hr4.out (by omega) (by omega)).mono ?_
    rintro e w5 ⟨rfl, hr5, ht5⟩
    have Hr5 := Lib.hid (show IsR w5 gr (rd2 fs).2.1 (rd2 fs).2.2 from hr5)
    have Hb5 := Lib.hid (Hb4.out.trans (ht5.below (fun k e => by rw [e]; exact hgb) Hb4.out.size))
    clear hr5 ht5
    go_wp2_with fail
    refine (RText_any gr (rd2 fs).2.2 (rd2 fs).2.1 (m : Int) w5 Hr5.out (by omega) (by omega)).mono ?_
    rintro e w6 ⟨A6, c6, rfl, hown6, _, ht6⟩
    rw [show rdText (rd2 fs).2.1 (rd2 fs).2.2 (m : Int) = rd3 fs by unfold rd3; rw [Hm.out]] at hown6 ⊢
    obtain ⟨t, ht⟩ : ∃ t, (rd3 fs).1 = t := ⟨_, rfl⟩
    rw [ht] at hown6 ⊢
    have Hyes2 := Lib.hid (show ∀ t', IsForm gen k t' f → t = t' from fun t' h => ht.symm.trans (Hyes.out t' h))
    clear ht
    have Hb6 := Lib.hid (Hb5.out.trans (ht6.below (fun k e => by rw [e]; exact hgb) Hb5.out.size))
    have Hown6 := Lib.hid (own_base hown6 Hb5.out.size)
    clear hown6 ht6
    go_wp2_with fail
    refine (Form_any (gen : Int) (k : Int) A6 t.length c6 t w6 (by omega) (by omega) (by omega) (by omega) rfl (Seen.of_own Hown6.out)).mono ?_
    have notext : (formE (gen : Int) (k : Int) t ≠ 0 ∨ formX 1 gen k t ≠ f) → ∀ t', ¬ IsForm gen k t' f := fun h t' h' => by
      obtain rfl := Hyes2.out t' h'
      rcases h with h | h
      · exact h h'.1
      · exact h h'.2
    have Notext := Lib.hid notext; clear notext
    rintro e w7 ⟨hb7, (⟨hne, rfl⟩ | ⟨h0, b, rfl, hbb, hblk⟩)⟩
    · have Hb7 := Lib.hid (Hb6.out.trans (hb7.mono Hb6.out.size))
      have Hno := Lib.hid (Notext.out (.inl hne))
      have hd : ((formE (gen : Int) (k : Int) t : Int) != 0) = true := by simp; exact hne
      obtain ⟨x, hx⟩ : ∃ x : Int, (formE (gen : Int) (k : Int) t : Int) = x := ⟨_, rfl⟩
      rw [hx] at hd ⊢
      clear hx hne hb7
      go_wp2
      go_ret2
      exact ⟨Hb7.out, .inr ⟨rfl, Hno.out⟩⟩
    · have Hb7 := Lib.hid (Hb6.out.trans (hb7.mono Hb6.out.size))
      have Hown7 := Lib.hid (own_below Hown6.out hb7)
      rw [Int.toNat_natCast, Int.toNat_natCast] at hblk ⊢
      have Hblk := Lib.hid (show Seen w7 (some ⟨b, 0, none⟩) (bytesV (formX 1 gen k t)) from by simpa using Seen.of_cells hblk)
      have Hl := Lib.hid (form_length 1 gen k t)
      have H0 := Lib.hid h0
      obtain ⟨z, hz⟩ : ∃ z, 64 * manyOf gen k t = z := ⟨_, rfl⟩
      rw [hz] at Hl ⊢
      clear hblk hb7 h0 hz
      go_wp2_with fail
      refine (BytesEqual_any (some ⟨b, 0, none⟩) (some ⟨g, o, none⟩) z n z c (formX 1 gen k t) f w7 Hl.out Hn.out Hblk.out (Hs.out.below Hb7.out)).mono ?_
      rintro e w8 ⟨rfl, rfl⟩
      by_cases he : formX 1 gen k t = f
      · rw [decide_eq_true he]
        go_wp2
        go_ret2
        exact ⟨Hb7.out, .inl ⟨t, A6, c6, rfl, Hown7.out, H0.out, he⟩⟩
      · rw [decide_eq_false he]
        go_wp2
        go_ret2
        exact ⟨Hb7.out, .inr ⟨rfl, Notext.out (.inr he)⟩⟩
end Go.Proofs.YtjekcaoonaniaaaGreat
