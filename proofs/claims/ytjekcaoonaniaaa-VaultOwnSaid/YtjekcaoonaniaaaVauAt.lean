/-
  Contracts of openJournal, and of checkpointAt over a place that is empty or holds a checkpoint. Conditions: a device without a fuse whose power is on; what each names.
-/
import Derived.Test.YtjekcaoonaniaaaVauLay
namespace Go.Proofs.Ytjekcaoonaniaaa
open Go.ChangeShapes Go.WideShapes Go.ChangeAt Go.RowKit Go.Maps
set_option linter.unusedVariables false

set_option maxRecDepth 100000 in
set_option maxHeartbeats 1000000 in
theorem openJournal_is (B g s : Nat) (r : Option Nat) (d : Dv) (a m gen : Nat) (os : List (List UInt8)) (w : World) (h : IsD w B g s r d) (hu : d.Up) (hL : d.L = []) (ha : 2 * (d.n / 4) = a) (hm : d.n - a = m) (hg : gen ≤ 1099511627776) (hs : Scanned gen (d.part a m) os) :
    Calls Try.prog 34 #[.pointer (some ⟨g, 0, none⟩), .int .i64 (gen : Int)] w fun e w' => ∃ j J, e = .returned (.tuple #[.pointer (some ⟨j, 0, none⟩), .int .i64 0]) ∧
      NewJ w B g s r j J w' ∧ RunP J d.n a m gen d.view os [] ∧ J.d.L = [] := by
  have H := Lib.hid h
  have hn4 := h.1.n
  have Ho := Lib.hid (JOpen_is B g s r d d.n a m gen os w h hu hL rfl (by omega) hg hs)
  have Ha := Lib.hid ha
  have Hsub := Lib.hid (show (d.n : Int) - (a : Int) = (m : Int) by omega)
  have han : a ≤ 4096 := by omega
  clear h hu hL ha hm hs
  go_enter Try.func34, Try.ntmps34
  go_wp2_with fail
  refine (changesFrom_any B g s r d w H.out).mono ?_
  rw [Ha.out]
  rintro e w1 ⟨rfl, rfl⟩
  go_wp2_with fail
  refine (Len_any B g s r d w H.out).mono ?_
  rintro e w1 ⟨rfl, rfl⟩
  go_wp2_with fail
  rw [Hsub.out]
  refine Ho.out.mono ?_
  rintro e w1 ⟨j, A, k, c, J, rfl, hnj, hrp, hJL⟩
  have Hnj := Lib.hid hnj; have Hrp := Lib.hid hrp; have HJL := Lib.hid hJL
  clear hnj hrp hJL
  go_wp2
  go_ret2
  exact ⟨j, J, rfl, Hnj.out, Hrp.out, HJL.out⟩

/-- what a checkpoint's place holds: nothing, or a checkpoint of a generation -/
abbrev Pl := Option (Nat × Vals)
def plB (q : Nat) : Pl → List UInt8
  | none => List.replicate (64 * q) 0
  | some (g, x) => formsX 1 g 0 (cpTexts x) ++ List.replicate (64 * (q - secsUp g 0 (cpTexts x))) 0
def PlOk (q : Nat) : Pl → Prop
  | none => True
  | some (g, x) => GoodV x ∧ 1 ≤ g ∧ g ≤ 1099511627776 ∧ secsUp g 0 (cpTexts x) ≤ q
def plG : Pl → Nat
  | none => 0
  | some (g, _) => g
def plT : Pl → List (List UInt8)
  | none => []
  | some (_, x) => cpTexts x
theorem cp_forms {g : Nat} {x : Vals} (hx : GoodV x) (hl : x.length ≤ 100000) (hg : g ≤ 1099511627776) : ∀ (i : Nat) t, (cpTexts x)[i]? = some t → formE g (i : Int) t = 0 := fun i t hi => by
  have hlt := (List.getElem?_eq_some_iff.1 hi).1
  rw [cpTexts_length] at hlt
  exact form_ok hg (by omega) (cpTexts_small hx (by omega) t (List.mem_of_getElem? hi))
theorem pl_scanned {q : Nat} {pl : Pl} (h : PlOk q pl) (hq : q ≤ 2000) : Scanned (plG pl) (plB q pl) (plT pl) := by
  cases pl with
  | none => exact scanned_zeros 0 _
  | some p =>
    obtain ⟨h1, h2, h3, h4⟩ := h
    have := secsUp_ge p.1 0 (cpTexts p.2)
    rw [cpTexts_length] at this
    exact scanned_forms (cp_forms h1 (by omega) h3)
/-- the guess of the generation -/
theorem pl_guess {q : Nat} {pl : Pl} (h : PlOk q pl) (hq : 1 ≤ q) : ∃ l, rdNum (((plB q pl).take 64).drop 3) 0 1099511627776 = (plG pl, l, 0) := by
  cases pl with
  | none =>
    refine ⟨List.replicate 60 0, ?_⟩
    have e : ((plB q none).take 64).drop 3 = numB 0 ++ List.replicate 60 0 := by
      rw [numB_lt (by omega)]
      unfold plB
      rw [List.take_replicate, List.drop_replicate, Nat.min_eq_left (by omega)]
      rfl
    rw [e]
    exact rdNum_numB (by omega) (by omega) _
  | some p =>
    obtain ⟨h1, h2, h3, h4⟩ := h
    have hl := numB_len9 (n := p.1) (by omega)
    obtain ⟨c, hc⟩ : ∃ c, plB q (some p) = headOf 1 (restB p.1 0 (numB p.2.length)).length ++ (numB p.1 ++ c) := by
      obtain ⟨c0, hc0⟩ : numB p.1 <+: restB p.1 0 (numB p.2.length) := ((List.prefix_append _ _).trans (List.prefix_append _ _)).trans (List.prefix_append _ _)
      refine ⟨c0 ++ (padOf (restB p.1 0 (numB p.2.length)).length ++ (formsX 1 p.1 1 (p.2.map keyText) ++ List.replicate (64 * (q - secsUp p.1 0 (cpTexts p.2))) 0)), ?_⟩
      rw [← List.append_assoc (numB p.1), hc0]
      unfold plB
      simp only [cpTexts, formsX, formX, List.append_assoc, Nat.zero_add]
    refine ⟨c.take (61 - (numB p.1).length), ?_⟩
    have e : ((plB q (some p)).take 64).drop 3 = numB p.1 ++ c.take (61 - (numB p.1).length) := by
      rw [hc, List.drop_take]
      show (numB p.1 ++ c).take 61 = _
      rw [List.take_append, List.take_of_length_le (by omega)]
    rw [e]
    exact rdNum_numB (by show (p.1 : Int) ≤ _; omega) (by omega) _
theorem plB_length {q : Nat} {pl : Pl} (h : PlOk q pl) : (plB q pl).length = 64 * q := by
  cases pl with
  | none => simp [plB]
  | some p =>
    obtain ⟨h1, h2, h3, h4⟩ := h
    unfold plB
    rw [List.length_append, formsX_length, List.length_replicate]
    omega

/-- what checkpointAt hands back -/
def AtRet (w : World) (pl : Pl) (en : Ending) (w' : World) : Prop := match pl with
  | none => en = .returned (.tuple #[.int .i64 0, .map none, .int .i64 0]) ∧ Below w.heap.size w w'
  | some (g, x) => ∃ m, en = .returned (.tuple #[.int .i64 (g : Int), .map (some m), .int .i64 0]) ∧ ValsAt w' w.heap.size m x ∧ Below w.heap.size w w'

set_option maxRecDepth 100000 in
set_option maxHeartbeats 2000000 in
theorem checkpointAt_any (B g s : Nat) (r : Option Nat) (d : Dv) (q p : Nat) (pl : Pl) (w : World) (h : IsD w B g s r d) (hu : d.Up) (hL : d.L = []) (hq : d.n / 4 = q) (hq1 : 1 ≤ q) (hp : p + q ≤ d.n) (hpl : PlOk q pl) (hpart : d.part p q = plB q pl) :
    Calls Try.prog 16 #[.pointer (some ⟨g, 0, none⟩), .int .i64 (p : Int)] w (AtRet w pl) := by
  have H := Lib.hid h
  have hn4 := h.1.n
  have hqn : q ≤ 1024 := by omega
  have Hq := Lib.hid hq
  have hsec := part_sec h.1 (a := p) (m := q) (u := 0) (j := 0) hp (by omega)
  rw [show p + (0 + 0) = p from rfl, Nat.mul_zero, List.drop_zero, hpart] at hsec
  have hsec2 : newest d.L d.S p = (plB q pl).take 64 := by rw [hsec]; unfold sec; rw [Nat.mul_zero, List.drop_zero]
  have hlen := plB_length hpl
  have hread := Read_any B g s r d p w h (by rw [hL]; simp) hu.2 (by omega)
  rw [hsec2] at hread
  obtain ⟨l, hguess⟩ := pl_guess hpl hq1
  have Hguess := Lib.hid hguess
  have hscan := pl_scanned hpl (by omega)
  rw [← hpart] at hscan
  have Hpl := Lib.hid hpl
  obtain ⟨G, hGe⟩ : ∃ G, plG pl = G := ⟨_, rfl⟩
  have HGe := Lib.hid hGe
  have hG : G ≤ 1099511627776 := by
    cases pl with
    | none => rw [← hGe]; exact Nat.zero_le _
    | some p => rw [← hGe]; exact hpl.2.2.1
  rw [hGe] at Hguess hscan
  have Hscan := Lib.hid hscan
  have Hsc := Lib.hid (fun w' (h' : IsD w' B g s r d) => Scan_any B g s r d p q G w' h' (by rw [hL]; simp) hu.2 hp hG)
  have Hread := Lib.hid hread
  obtain ⟨f, hf⟩ : ∃ f, (plB q pl).take 64 = f := ⟨_, rfl⟩
  have hfl : f.length = 64 := by rw [← hf, List.length_take, hlen]; omega
  have Hfl := Lib.hid hfl
  rw [hf] at Hread Hguess
  clear h hu hL hq hsec hsec2 hlen hread hguess hscan hpl hGe hpart hf hfl
  go_enter Try.func16, Try.ntmps16
  go_wp2_with fail
  refine Hread.out.mono ?_
  rintro e w1 ⟨pb, rfl, hpb, hblk, hb1⟩
  have hs1 := seen_drop_n (K := 3) (c := 64) (by omega) (Blk.seen hblk) (by rw [Hfl.out]; exact Nat.le_refl _)
  have Hs1 := Lib.hid hs1; have Hb1 := Lib.hid hb1
  have Hd1 := Lib.hid (H.out.below hb1)
  clear hs1 hblk hb1
  go_wp2_with fail
  refine (NewR_any _ 61 61 (f.drop 3) w1 (by rw [List.length_drop, Hfl.out]) (by omega) Hs1.out).mono ?_
  rintro e w2 ⟨gr, rfl, hgr, hr2, hb2⟩
  have Hb2 := Lib.hid (Hb1.out.trans (hb2.mono Hb1.out.size))
  have Hr2 := Lib.hid hr2
  have Hd2 := Lib.hid (Hd1.out.below hb2)
  have hgr2 : w.heap.size ≤ gr := Nat.le_trans Hb1.out.size hgr
  have Hgl := Lib.hid hr2.lt
  clear hr2 hb2
  go_wp2_with fail
  refine (VNum_is gr 0 (f.drop 3) 1099511627776 w2 Hr2.out (by omega) (by omega) Hguess.out).mono ?_
  rintro e w3 ⟨rfl, hr3, ht3⟩
  have hdl := Hd1.out.lt
  have Hd3 := Lib.hid (Hd2.out.turned ht3 (by omega) (by omega) (fun k hk e => by have := (hdl.2.2.2.2 k hk).2; omega))
  have Hb3 := Lib.hid (Hb2.out.trans (ht3.below (fun k hk => by rw [hk]; exact hgr2) Hb2.out.size))
  clear hr3 ht3 hdl
  go_wp2_with fail
  refine (quarter_any B g s r d w3 Hd3.out).mono ?_
  rw [Hq.out]
  rintro e w4 ⟨rfl, rfl⟩
  go_wp2_with fail
  refine (Hsc.out w3 Hd3.out).mono ?_
  rintro e w4 ⟨hb4, ts, A4, n4, c4, rfl, hsc4, htx4⟩
  have Hb4 := Lib.hid (Hb3.out.trans (hb4.mono Hb3.out.size))
  obtain rfl : ts = plT pl := hsc4.one Hscan.out
  have Htx := Lib.hid htx4
  have hn4' := htx4.len
  clear hb4 hsc4 htx4
  cases pl with
  | none =>
    obtain rfl : n4 = 0 := hn4'.symm
    go_wp2_with fail
    refine (valuesOf_nil A4 c4 w4).mono ?_
    rintro e w5 ⟨rfl, rfl⟩
    go_wp2
    go_ret3
    exact ⟨rfl, Hb4.out⟩
  | some px =>
    obtain ⟨gx, x⟩ := px
    obtain rfl : gx = G := HGe.out
    obtain ⟨k1, k2, k3, k4⟩ := Hpl.out
    have hxl := secsUp_ge gx 0 (cpTexts x)
    rw [cpTexts_length] at hxl
    obtain ⟨n, hn⟩ : ∃ n, x.length = n := ⟨_, rfl⟩
    have hn5 : n4 = n + 1 := by rw [← hn4']; show (cpTexts x).length = _; rw [cpTexts_length, hn]
    subst hn5
    have hcap := own_cap0 Htx.out.own.choose_spec.1
    rw [hn] at hxl
    have Hn := Lib.hid hn
    have hn1 : n ≤ 10000 := by omega
    clear hn4' k1 k2 k3 k4
    go_wp2_with fail
    refine (valuesOf_cp x A4 n c4 w4 Hpl.out.1 Hn.out hn1 hcap.1 hcap.2 Htx.out.seen).mono ?_
    rintro e w5 ⟨m, rfl, hv5, hb5⟩
    have Hv5 := Lib.hid (hv5.base Hb4.out.size)
    have Hb5 := Lib.hid (Hb4.out.trans (hb5.mono Hb4.out.size))
    clear hv5 hb5
    go_wp2
    go_ret3
    exact ⟨m, rfl, Hv5.out, Hb5.out⟩
end Go.Proofs.Ytjekcaoonaniaaa
