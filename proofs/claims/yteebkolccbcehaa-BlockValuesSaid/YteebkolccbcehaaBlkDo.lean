/-
  Contract of law21's do: a content behind any acts, by definition. Conditions: a content, acts that can be read and lie apart from it.
-/
import Derived.Test.YteebkolccbcehaaBlkRef
import Derived.Test.YteebkolccbcehaaActs8
import Derived.Deep.QuietTactic
namespace Go.Proofs.Yteebkolccbcehaa
open Go.ChangeShapes Go.WideShapes Go.ChangeAt Go.RowKit
set_option linter.unusedVariables false
set_option linter.unusedSimpArgs false

/-- a write, a trim, of any number: what a content is behind it, and the error -/
def wrF (l : List UInt8) (i : Int) (b : List UInt8) : List UInt8 := if isB i = true ∧ b.length = 16 then setB l i.toNat b else l
def wrE (i : Int) (b : List UInt8) : Int := if isB i = true ∧ b.length = 16 then 0 else 1
def trF (l : List UInt8) (i : Int) : List UInt8 := if isB i = true then setB l i.toNat zB else l
def trE (i : Int) : Int := if isB i = true then 0 else 1
theorem BWrite_any (g : Nat) (l : List UInt8) (i : Int) (A : Option Addr) (n c : Nat) (b : List UInt8) (w : World) (h : CtAt w g l) (hb : b.length = n) (hs : Seen w A (bytesV b)) :
    Calls Try.prog 10 #[.pointer (some ⟨g, 0, none⟩), .int .i64 i, .slice A n c] w fun e w' => e = .returned (.int .i64 (wrE i b)) ∧ CtAt w' g (wrF l i b) ∧ Turned (fun k => k = g) w w' := by
  unfold wrE wrF
  by_cases hc : isB i = true ∧ b.length = 16
  · rw [if_pos hc, if_pos hc]
    obtain ⟨k, rfl, hk⟩ := isB_yes hc.1
    have hn : n = 16 := by rw [← hb]; exact hc.2
    subst hn
    exact BWrite_yes g l k A c b w h hk hb hs
  · rw [if_neg hc, if_neg hc]
    refine (BWrite_no g l i A n c w (fun e e2 => hc ⟨e, by omega⟩)).mono ?_
    rintro e w' ⟨rfl, rfl⟩
    exact ⟨rfl, h, .refl _ _⟩
theorem BTrim_any (g : Nat) (l : List UInt8) (i : Int) (w : World) (h : CtAt w g l) :
    Calls Try.prog 12 #[.pointer (some ⟨g, 0, none⟩), .int .i64 i] w fun e w' => e = .returned (.int .i64 (trE i)) ∧ CtAt w' g (trF l i) ∧ Turned (fun k => k = g) w w' := by
  unfold trE trF
  by_cases hc : isB i = true
  · rw [if_pos hc, if_pos hc]
    obtain ⟨k, rfl, hk⟩ := isB_yes hc
    exact BTrim_yes g l k w h hk
  · rw [if_neg hc, if_neg hc]
    refine (BTrim_no g i w (by simpa using hc)).mono ?_
    rintro e w' ⟨rfl, rfl⟩
    exact ⟨rfl, h, .refl _ _⟩
theorem wrF_length {l b : List UInt8} {i : Int} (hl : l.length = 128) : (wrF l i b).length = 128 := by
  unfold wrF
  split
  · rename_i h
    obtain ⟨k, rfl, hk⟩ := isB_yes h.1
    exact setB_length hl hk h.2
  · exact hl
theorem trF_length {l : List UInt8} {i : Int} (hl : l.length = 128) : (trF l i).length = 128 := by
  unfold trF
  split
  · rename_i h
    obtain ⟨k, rfl, hk⟩ := isB_yes h
    exact setB_length hl hk rfl
  · exact hl
/-- the document's Write and Trim, of any number -/
theorem RWrite_any (g : Nat) (A : Option Addr) (c : Nat) (l : List UInt8) (i : Int) (B : Option Addr) (m d : Nat) (b : List UInt8) (w : World) (hl : l.length = 128) (hc : 128 ≤ c) (hcm : c ≤ maxLen) (hs : Seen w A (bytesV l)) (hb : b.length = m) (hsb : Seen w B (bytesV b)) (hg : g < w.heap.size) (ha : ∀ p q, A = some ⟨p, q, none⟩ → p ≠ g) :
    Calls Try.prog 9 #[.slice A 128 c, .int .i64 i, .slice B m d] w fun e w' => ∃ A2 c2, e = .returned (.tuple #[.slice A2 128 c2, .int .i64 (wrE i b)]) ∧ 128 ≤ c2 ∧ c2 ≤ maxLen ∧ Seen w' A2 (bytesV (wrF l i b)) ∧ (∀ p q, A2 = some ⟨p, q, none⟩ → p ≠ g) ∧ Below w.heap.size w w' := by
  unfold wrE wrF
  by_cases h : isB i = true ∧ b.length = 16
  · rw [if_pos h, if_pos h]
    obtain ⟨k, rfl, hk⟩ := isB_yes h.1
    have hm : m = 16 := by rw [← hb]; exact h.2
    subst hm
    refine (RWrite_yes A c l k B d b w hl hc hcm hs hk hb hsb).mono ?_
    rintro e w' ⟨A2, c2, rfl, h1, h2, h3, h4, h5⟩
    exact ⟨A2, c2, rfl, h1, h2, h3, fun p q e => by have := h4 p q e; omega, h5⟩
  · rw [if_neg h, if_neg h]
    refine (RWrite_no A 128 c i B m d w (fun e e2 => h ⟨e, by omega⟩)).mono ?_
    rintro e w' ⟨rfl, rfl⟩
    exact ⟨A, c, rfl, hc, hcm, hs, ha, Below.refl _ _⟩
theorem RTrim_any (g : Nat) (A : Option Addr) (c : Nat) (l : List UInt8) (i : Int) (w : World) (hl : l.length = 128) (hc : 128 ≤ c) (hcm : c ≤ maxLen) (hs : Seen w A (bytesV l)) (hg : g < w.heap.size) (ha : ∀ p q, A = some ⟨p, q, none⟩ → p ≠ g) :
    Calls Try.prog 11 #[.slice A 128 c, .int .i64 i] w fun e w' => ∃ A2 c2, e = .returned (.tuple #[.slice A2 128 c2, .int .i64 (trE i)]) ∧ 128 ≤ c2 ∧ c2 ≤ maxLen ∧ Seen w' A2 (bytesV (trF l i)) ∧ (∀ p q, A2 = some ⟨p, q, none⟩ → p ≠ g) ∧ Below w.heap.size w w' := by
  unfold trE trF
  by_cases h : isB i = true
  · rw [if_pos h, if_pos h]
    obtain ⟨k, rfl, hk⟩ := isB_yes h
    refine (RTrim_yes A c l k w hl hc hcm hs hk).mono ?_
    rintro e w' ⟨A2, c2, rfl, h1, h2, h3, h4, h5⟩
    exact ⟨A2, c2, rfl, h1, h2, h3, fun p q e => by have := h4 p q e; omega, h5⟩
  · rw [if_neg h, if_neg h]
    refine (RTrim_no A 128 c i w (by simpa using h)).mono ?_
    rintro e w' ⟨rfl, hb⟩
    exact ⟨A, c, rfl, hc, hcm, hs.below hb, ha, hb⟩
def actF (l : List UInt8) (a : Act8) : List UInt8 := if a.t = 0 then wrF l a.i a.bs else trF l a.i
def doF (l : List UInt8) (al : List Act8) : List UInt8 := al.foldl actF l
theorem Acts8At.turned {p : Nat → Prop} {w w' : World} {A : Option Addr} {l : List Act8} (h : Acts8At w A l) (ht : Turned p w w') (hp : ∀ k, p k → w.heap.size ≤ k) : Acts8At w' A l :=
  h.below (ht.below hp (Nat.le_refl _))
attribute [local irreducible] wpQuiet
set_option maxRecDepth 100000 in
set_option maxHeartbeats 4000000 in
/-- acts that lay before g was there -/
theorem do_any (g : Nat) (l : List UInt8) (A : Option Addr) (n c : Nat) (al : List Act8) (w0 w : World) (h : CtAt w g l) (hn : al.length = n) (h60 : n ≤ 60) (hA : Acts8At w0 A al) (hb0 : Below w0.heap.size w0 w) (hg : w0.heap.size ≤ g) :
    Calls Try.prog 22 #[.pointer (some ⟨g, 0, none⟩), .slice A n c] w fun e w' => e = .returned (.tuple #[]) ∧ CtAt w' g (doF l al) ∧ Turned (fun k => k = g) w w' := by
  have H := Lib.hid h; have HA := Lib.hid hA; have Hb0 := Lib.hid hb0; have Hn := Lib.hid hn
  clear h hA hb0 hn
  go_enter Try.func22, Try.ntmps22
  go_wp2
  go_loopw [4] (fun iv wr => ∃ k : Nat, k ≤ n ∧ iv = .int .i64 (k : Int) ∧ CtAt wr g (doF l (al.take k)) ∧ Turned (fun k => k = g) w wr) (fun iv _ => n - (intOf iv).toNat)
  case atStart => exact ⟨0, by omega, rfl, H.out, .refl _ _⟩
  case round =>
    obtain ⟨k, hk, rfl, hct, htu⟩ := hrel
    by_cases hlt : k < n
    · have hbw : Below w0.heap.size w0 wr := Hb0.out.trans (htu.below (fun q e => by omega) Hb0.out.size)
      have ha := HA.out.below hbw
      obtain ⟨p, q, a, rfl, hak, ha8⟩ := ha.get (k := k) (by rw [Hn.out]; exact hlt)
      have c0 := ha8.c0; have c1 := ha8.c1; have c2 := ha8.c2
      have hda : doF l (al.take (k + 1)) = actF (doF l (al.take k)) a := by
        unfold doF
        obtain ⟨h1, h2⟩ := List.getElem?_eq_some_iff.1 hak
        rw [List.take_succ_eq_append_getElem h1, h2, List.foldl_append]
        rfl
      obtain ⟨m, hm⟩ : ∃ m, doF l (al.take k) = m := ⟨_, rfl⟩
      rw [hm] at hct hda
      have k0 : (0 : Int) ≤ (k : Int) := by omega
      have kn : (k : Int) < (n : Int) := by omega
      have Hda := Lib.hid hda; have Hct := Lib.hid hct; have Htu := Lib.hid htu; have Ha8 := Lib.hid ha8
      clear hda hct htu ha8 hbw ha hak hm
      by_cases ht : a.t = 0
      · have KW := Lib.hid (fun V (hb : Below wr.heap.size wr V) => BWrite_any g m a.i a.A a.n a.c a.bs V (Hct.out.below hb) Ha8.out.bl (Ha8.out.bs.below hb))
        have Hat := Lib.hid (show actF m a = wrF m a.i a.bs from if_pos ht)
        rw [ht] at c0
        go_upto_region 4 with fail
        go_still_tail 11, (by kernel_rfl)
        change wpList _ _ _ _ _ wr.drew
        go_wp2_with fail
        refine (KW.out _ (Below.refl _ wr).drew).mono ?_
        rintro e w2 ⟨rfl, hc2, ht2⟩
        have Hc2 := Lib.hid hc2; have Ht2 := Lib.hid (Htu.out.trans ((Turned.of_below (Below.refl _ wr).drew (p := fun q => q = g)).trans ht2 (fun _ e => e) (fun _ _ e => e)) (fun _ e => e) (fun _ _ e => e))
        clear hc2 ht2
        go_wp2
        go_roundw
        case rel => exact ⟨k + 1, by omega, by go_num, by rw [Hda.out, Hat.out]; exact Hc2.out, Ht2.out⟩
        case measure => simp [intOf]; omega
      · have KT := Lib.hid (BTrim_any g m a.i wr Hct.out)
        have Hat := Lib.hid (show actF m a = trF m a.i from if_neg ht)
        have ht' : (a.t == 0) = false := by rw [beq_eq_false_iff_ne]; exact ht
        clear ht
        go_wp2_with fail
        refine KT.out.mono ?_
        rintro e w2 ⟨rfl, hc2, ht2⟩
        have Hc2 := Lib.hid hc2; have Ht2 := Lib.hid (Htu.out.trans ht2 (fun _ e => e) (fun _ _ e => e))
        clear hc2 ht2
        go_wp2
        go_roundw
        case rel => exact ⟨k + 1, by omega, by go_num, by rw [Hda.out, Hat.out]; exact Hc2.out, Ht2.out⟩
        case measure => simp [intOf]; omega
    · obtain rfl : k = n := by omega
      rw [List.take_of_length_le (by rw [Hn.out]; omega)] at hct
      go_wp2
      go_end0
      exact ⟨rfl, hct, htu⟩
end Go.Proofs.Yteebkolccbcehaa
