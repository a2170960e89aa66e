/-
  Contracts of openJournal, and of checkpointAt over a place that is empty or holds a checkpoint. Conditions: a device without a fuse whose power is on; what each names.
  A vault by definition (Vt): the two places, the changes since, what a device then shows, and what a change makes of it. It speaks of no program but by the model's own definitions. No condition but what each lemma names.
-/
import Derived.Test.YtjekcaoonaniaaaGreatVauLay
namespace Go.Proofs.YtjekcaoonaniaaaGreat
open Go.ChangeShapes Go.WideShapes Go.ChangeAt Go.RowKit Go.Maps
set_option linter.unusedVariables false

set_option maxRecDepth 100000 in
set_option maxHeartbeats 1000000 in
theorem openJournal_is (B g s : Nat) (r : Option Nat) (d : Dv) (a m gen : Nat) (os : List (List UInt8)) (w : World) (h : IsD w B g s r d) (hu : d.Up) (hL : d.L = []) (ha : 2 * (d.n / 4) = a) (hm : d.n - a = m) (hg : gen ≤ 1099511627776) (hs : Scanned gen (d.part a m) os) :
    Calls Tryz.prog 41 #[.pointer (some ⟨g, 0, none⟩), .int .i64 (gen : Int)] w fun e w' => ∃ j J, e = .returned (.tuple #[.pointer (some ⟨j, 0, none⟩), .int .i64 0]) ∧
      NewJ w B g s r j J w' ∧ RunP J d.n a m gen d.view os [] ∧ J.d.L = [] := by
  have H := Lib.hid h
  have hn4 := h.1.n
  have Ho := Lib.hid (JOpen_is B g s r d d.n a m gen os w h hu hL rfl (by omega) hg hs)
  have Ha := Lib.hid ha
  have Hsub := Lib.hid (show (d.n : Int) - (a : Int) = (m : Int) by omega)
  have han : a ≤ 4096 := by omega
  clear h hu hL ha hm hs
  go_enter Tryz.func41, Tryz.ntmps41
  go_wp2_with fail
  refine (changesFrom_any B g s r d w H.out).mono ?_
  rw [Ha.out]
  rintro e w1 ⟨rfl, rfl⟩
  go_wp2_with fail
  refine (Len_any B g s r d w H.out).mono ?_
  rintro e w1 ⟨rfl, rfl⟩
  go_wp2_with fail
  rw [Hsub.out]
  refine Ho.out.mono ?_
  rintro e w1 ⟨j, A, k, c, J, rfl, hnj, hrp, hJL⟩
  have Hnj := Lib.hid hnj; have Hrp := Lib.hid hrp; have HJL := Lib.hid hJL
  clear hnj hrp hJL
  go_wp2
  go_ret2
  exact ⟨j, J, rfl, Hnj.out, Hrp.out, HJL.out⟩

/-- what a checkpoint's place holds: nothing, or a checkpoint of a generation -/
abbrev Pl := Option (Nat × Vals)
def plB (q : Nat) : Pl → List UInt8
  | none => List.replicate (64 * q) 0
  | some (g, x) => formsX 1 g 0 (cpTexts x) ++ List.replicate (64 * (q - secsUp g 0 (cpTexts x))) 0
def PlOk (q : Nat) : Pl → Prop
  | none => True
  | some (g, x) => GoodV x ∧ 1 ≤ g ∧ g ≤ 1099511627776 ∧ secsUp g 0 (cpTexts x) ≤ q
def plG : Pl → Nat
  | none => 0
  | some (g, _) => g
def plT : Pl → List (List UInt8)
  | none => []
  | some (_, x) => cpTexts x
theorem cp_forms {g : Nat} {x : Vals} (hx : GoodV x) (hl : x.length ≤ 100000) (hg : g ≤ 1099511627776) : ∀ (i : Nat) t, (cpTexts x)[i]? = some t → formE g (i : Int) t = 0 := fun i t hi => by
  have hlt := (List.getElem?_eq_some_iff.1 hi).1
  rw [cpTexts_length] at hlt
  exact form_ok hg (by omega) (cpTexts_small hx (by omega) t (List.mem_of_getElem? hi))
theorem pl_scanned {q : Nat} {pl : Pl} (h : PlOk q pl) (hq : q ≤ 2000) : Scanned (plG pl) (plB q pl) (plT pl) := by
  cases pl with
  | none => exact scanned_zeros 0 _
  | some p =>
    obtain ⟨h1, h2, h3, h4⟩ := h
    have := secsUp_ge p.1 0 (cpTexts p.2)
    rw [cpTexts_length] at this
    exact scanned_forms (cp_forms h1 (by omega) h3)
/-- the guess of the generation -/
theorem pl_guess {q : Nat} {pl : Pl} (h : PlOk q pl) (hq : 1 ≤ q) : ∃ l, rdNum (((plB q pl).take 64).drop 3) 0 1099511627776 = (plG pl, l, 0) := by
  cases pl with
  | none =>
    refine ⟨List.replicate 60 0, ?_⟩
    have e : ((plB q none).take 64).drop 3 = numB 0 ++ List.replicate 60 0 := by
      rw [numB_lt (by omega)]
      unfold plB
      rw [List.take_replicate, List.drop_replicate, Nat.min_eq_left (by omega)]
      rfl
    rw [e]
    exact rdNum_numB (by omega) (by omega) _
  | some p =>
    obtain ⟨h1, h2, h3, h4⟩ := h
    have hl := numB_len9 (n := p.1) (by omega)
    obtain ⟨c, hc⟩ : ∃ c, plB q (some p) = headOf 1 (restB p.1 0 (numB p.2.length)).length ++ (numB p.1 ++ c) := by
      obtain ⟨c0, hc0⟩ : numB p.1 <+: restB p.1 0 (numB p.2.length) := ((List.prefix_append _ _).trans (List.prefix_append _ _)).trans (List.prefix_append _ _)
      refine ⟨c0 ++ (padOf (restB p.1 0 (numB p.2.length)).length ++ (formsX 1 p.1 1 (p.2.map keyText) ++ List.replicate (64 * (q - secsUp p.1 0 (cpTexts p.2))) 0)), ?_⟩
      rw [← List.append_assoc (numB p.1), hc0]
      unfold plB
      simp only [cpTexts, formsX, formX, List.append_assoc, Nat.zero_add]
    refine ⟨c.take (61 - (numB p.1).length), ?_⟩
    have e : ((plB q (some p)).take 64).drop 3 = numB p.1 ++ c.take (61 - (numB p.1).length) := by
      rw [hc, List.drop_take]
      show (numB p.1 ++ c).take 61 = _
      rw [List.take_append, List.take_of_length_le (by omega)]
    rw [e]
    exact rdNum_numB (by show (p.1 : Int) ≤ _; omega) (by omega) _
theorem plB_length {q : Nat} {pl : Pl} (h : PlOk q pl) : (plB q pl).length = 64 * q := by
  cases pl with
  | none => simp [plB]
  | some p =>
    obtain ⟨h1, h2, h3, h4⟩ := h
    unfold plB
    rw [List.length_append, formsX_length, List.length_replicate]
    omega

/-- what checkpointAt hands back -/
def AtRet (w : World) (pl : Pl) (en : Ending) (w' : World) : Prop := match pl with
  | none => en = .returned (.tuple #[.int .i64 0, .map none, .int .i64 0]) ∧ Below w.heap.size w w'
  | some (g, x) => ∃ m, en = .returned (.tuple #[.int .i64 (g : Int), .map (some m), .int .i64 0]) ∧ ValsAt w' w.heap.size m x ∧ Below w.heap.size w w'

set_option maxRecDepth 100000 in
set_option maxHeartbeats 2000000 in
theorem checkpointAt_any (B g s : Nat) (r : Option Nat) (d : Dv) (q p : Nat) (pl : Pl) (w : World) (h : IsD w B g s r d) (hu : d.Up) (hL : d.L = []) (hq : d.n / 4 = q) (hq1 : 1 ≤ q) (hp : p + q ≤ d.n) (hpl : PlOk q pl) (hpart : d.part p q = plB q pl) :
    Calls Tryz.prog 21 #[.pointer (some ⟨g, 0, none⟩), .int .i64 (p : Int)] w (AtRet w pl) := by
  have H := Lib.hid h
  have hn4 := h.1.n
  have hqn : q ≤ 1024 := by omega
  have Hq := Lib.hid hq
  have hsec := part_sec h.1 (a := p) (m := q) (u := 0) (j := 0) hp (by omega)
  rw [show p + (0 + 0) = p from rfl, Nat.mul_zero, List.drop_zero, hpart] at hsec
  have hsec2 : newest d.L d.S p = (plB q pl).take 64 := by rw [hsec]; unfold sec; rw [Nat.mul_zero, List.drop_zero]
  have hlen := plB_length hpl
  have hread := Read_any B g s r d p w h (by rw [hL]; simp) hu.2 (by omega)
  rw [hsec2] at hread
  obtain ⟨l, hguess⟩ := pl_guess hpl hq1
  have Hguess := Lib.hid hguess
  have hscan := pl_scanned hpl (by omega)
  rw [← hpart] at hscan
  have Hpl := Lib.hid hpl
  obtain ⟨G, hGe⟩ : ∃ G, plG pl = G := ⟨_, rfl⟩
  have HGe := Lib.hid hGe
  have hG : G ≤ 1099511627776 := by
    cases pl with
    | none => rw [← hGe]; exact Nat.zero_le _
    | some p => rw [← hGe]; exact hpl.2.2.1
  rw [hGe] at Hguess hscan
  have Hscan := Lib.hid hscan
  have Hsc := Lib.hid (fun w' (h' : IsD w' B g s r d) => Scan_any B g s r d p q G w' h' (by rw [hL]; simp) hu.2 hp hG)
  have Hread := Lib.hid hread
  obtain ⟨f, hf⟩ : ∃ f, (plB q pl).take 64 = f := ⟨_, rfl⟩
  have hfl : f.length = 64 := by rw [← hf, List.length_take, hlen]; omega
  have Hfl := Lib.hid hfl
  rw [hf] at Hread Hguess
  clear h hu hL hq hsec hsec2 hlen hread hguess hscan hpl hGe hpart hf hfl
  go_enter Tryz.func21, Tryz.ntmps21
  go_wp2_with fail
  refine Hread.out.mono ?_
  rintro e w1 ⟨pb, rfl, hpb, hblk, hb1⟩
  have hs1 := seen_drop_n (K := 3) (c := 64) (by omega) (Blk.seen hblk) (by rw [Hfl.out]; exact Nat.le_refl _)
  have Hs1 := Lib.hid hs1; have Hb1 := Lib.hid hb1
  have Hd1 := Lib.hid (H.out.below hb1)
  clear hs1 hblk hb1
  go_wp2_with fail
  refine (NewR_any _ 61 61 (f.drop 3) w1 (by rw [List.length_drop, Hfl.out]) (by omega) Hs1.out).mono ?_
  rintro e w2 ⟨gr, rfl, hgr, hr2, hb2⟩
  have Hb2 := Lib.hid (Hb1.out.trans (hb2.mono Hb1.out.size))
  have Hr2 := Lib.hid hr2
  have Hd2 := Lib.hid (Hd1.out.below hb2)
  have hgr2 : w.heap.size ≤ gr := Nat.le_trans Hb1.out.size hgr
  have Hgl := Lib.hid hr2.lt
  clear hr2 hb2
  go_wp2_with fail
  refine (VNum_is gr 0 (f.drop 3) 1099511627776 w2 Hr2.out (by omega) (by omega) Hguess.out).mono ?_
  rintro e w3 ⟨rfl, hr3, ht3⟩
  have hdl := Hd1.out.lt
  have Hd3 := Lib.hid (Hd2.out.turned ht3 (by omega) (by omega) (fun k hk e => by have := (hdl.2.2.2.2 k hk).2; omega))
  have Hb3 := Lib.hid (Hb2.out.trans (ht3.below (fun k hk => by rw [hk]; exact hgr2) Hb2.out.size))
  clear hr3 ht3 hdl
  go_wp2_with fail
  refine (quarter_any B g s r d w3 Hd3.out).mono ?_
  rw [Hq.out]
  rintro e w4 ⟨rfl, rfl⟩
  go_wp2_with fail
  refine (Hsc.out w3 Hd3.out).mono ?_
  rintro e w4 ⟨hb4, ts, A4, n4, c4, rfl, hsc4, htx4⟩
  have Hb4 := Lib.hid (Hb3.out.trans (hb4.mono Hb3.out.size))
  obtain rfl : ts = plT pl := hsc4.one Hscan.out
  have Htx := Lib.hid htx4
  have hn4' := htx4.len
  clear hb4 hsc4 htx4
  cases pl with
  | none =>
    obtain rfl : n4 = 0 := hn4'.symm
    go_wp2_with fail
    refine (valuesOf_nil A4 c4 w4).mono ?_
    rintro e w5 ⟨rfl, rfl⟩
    go_wp2
    go_ret3
    exact ⟨rfl, Hb4.out⟩
  | some px =>
    obtain ⟨gx, x⟩ := px
    obtain rfl : gx = G := HGe.out
    obtain ⟨k1, k2, k3, k4⟩ := Hpl.out
    have hxl := secsUp_ge gx 0 (cpTexts x)
    rw [cpTexts_length] at hxl
    obtain ⟨n, hn⟩ : ∃ n, x.length = n := ⟨_, rfl⟩
    have hn5 : n4 = n + 1 := by rw [← hn4']; show (cpTexts x).length = _; rw [cpTexts_length, hn]
    subst hn5
    have hcap := own_cap0 Htx.out.own.choose_spec.1
    rw [hn] at hxl
    have Hn := Lib.hid hn
    have hn1 : n ≤ 10000 := by omega
    clear hn4' k1 k2 k3 k4
    go_wp2_with fail
    refine (valuesOf_cp x A4 n c4 w4 Hpl.out.1 Hn.out hn1 hcap.1 hcap.2 Htx.out.seen).mono ?_
    rintro e w5 ⟨m, rfl, hv5, hb5⟩
    have Hv5 := Lib.hid (hv5.base Hb4.out.size)
    have Hb5 := Lib.hid (Hb4.out.trans (hb5.mono Hb4.out.size))
    clear hv5 hb5
    go_wp2
    go_ret3
    exact ⟨m, rfl, Hv5.out, Hb5.out⟩
end Go.Proofs.YtjekcaoonaniaaaGreat

namespace Go.Proofs.YtjekcaoonaniaaaGreat
open Go.ChangeShapes Go.WideShapes Go.ChangeAt Go.RowKit Go.Maps
set_option linter.unusedVariables false

structure Vt where
  n : Nat
  gen : Nat
  next : Nat
  p0 : Pl
  p1 : Pl
  base : Vals
  cs : List Chg
def Vt.q (st : Vt) : Nat := st.n / 4
def Vt.a (st : Vt) : Nat := 2 * (st.n / 4)
def Vt.m (st : Vt) : Nat := st.n - 2 * (st.n / 4)
def Vt.texts (st : Vt) : List (List UInt8) := st.cs.map Chg.text
def Vt.x (st : Vt) : Vals := onAll st.cs st.base
def Vt.used (st : Vt) : Nat := secsUp st.gen 0 st.texts
def Vt.places (st : Vt) : List UInt8 := plB st.q st.p0 ++ plB st.q st.p1
def Vt.bytes (st : Vt) : List UInt8 := st.places ++ (formsX 1 st.gen 0 st.texts ++ List.replicate (64 * (st.m - st.used)) 0)
structure Vt.Ok (st : Vt) : Prop where
  n8 : 8 ≤ st.n
  n4 : st.n ≤ 4096
  g : st.gen ≤ 1099511627776
  p0 : PlOk st.q st.p0
  p1 : PlOk st.q st.p1
  cs : ∀ c ∈ st.cs, c.Ok
  room : st.used ≤ st.m
  cur : (st.gen = 0 ∧ st.next = 0 ∧ st.p0 = none ∧ st.p1 = none ∧ st.base = []) ∨ (1 ≤ st.gen ∧ st.next = st.q ∧ st.p0 = some (st.gen, st.base) ∧ plG st.p1 < st.gen) ∨ (1 ≤ st.gen ∧ st.next = 0 ∧ st.p1 = some (st.gen, st.base) ∧ plG st.p0 < st.gen)
theorem Vt.texts_length (st : Vt) : st.texts.length = st.cs.length := by simp [Vt.texts]
theorem Vt.Ok.qn {st : Vt} (h : st.Ok) : 2 ≤ st.q ∧ st.q ≤ 1024 ∧ st.a = 2 * st.q ∧ st.a + st.m = st.n ∧ st.q + st.q ≤ st.n := by
  have := h.n8; have := h.n4
  unfold Vt.q Vt.a Vt.m
  omega
theorem pl_length {q : Nat} {p : Nat × Vals} (h : PlOk q (some p)) : p.2.length < q := by
  have := secsUp_ge p.1 0 (cpTexts p.2)
  rw [cpTexts_length] at this
  have := h.2.2.2
  show p.2.length < q
  omega
theorem Vt.Ok.base {st : Vt} (h : st.Ok) : GoodV st.base ∧ st.base.length ≤ 1024 := by
  have hq := h.qn
  rcases h.cur with ⟨_, _, _, _, e⟩ | ⟨_, _, e, _⟩ | ⟨_, _, e, _⟩
  · rw [e]; exact ⟨GoodV.nil, Nat.zero_le _⟩
  · have := h.p0; rw [e] at this; exact ⟨this.1, by have := pl_length this; simp only at this; omega⟩
  · have := h.p1; rw [e] at this; exact ⟨this.1, by have := pl_length this; simp only at this; omega⟩
theorem Vt.Ok.few {st : Vt} (h : st.Ok) : st.cs.length ≤ 4096 := by
  have := secsUp_ge st.gen 0 st.texts
  rw [st.texts_length] at this
  have h1 := h.room; have h2 := h.qn; have h3 := h.n4
  unfold Vt.used at h1
  omega
theorem onAll_length : ∀ (cs : List Chg) (x : Vals), (onAll cs x).length ≤ x.length + cs.length
  | [], _ => Nat.le_refl _
  | c :: r, x => by
    have h1 := onAll_length r (c.on x)
    have h2 := c.on_length x
    simp only [onAll, List.foldl_cons, List.length_cons] at *
    omega
theorem Vt.Ok.good {st : Vt} (h : st.Ok) : GoodV st.x := onAll_good h.cs h.base.1
theorem Vt.Ok.xlen {st : Vt} (h : st.Ok) : st.x.length ≤ 5120 := by
  have h1 := onAll_length st.cs st.base
  have h2 := h.base.2; have h3 := h.few
  unfold Vt.x
  omega
theorem Vt.Ok.small {st : Vt} (h : st.Ok) : ∀ t ∈ st.texts, t.length ≤ 930 := fun t ht => by
  obtain ⟨c, hc, rfl⟩ := List.mem_map.1 ht
  have := c.text_len (h.cs c hc)
  omega
theorem Vt.Ok.forms {st : Vt} (h : st.Ok) : ∀ (i : Nat) t, st.texts[i]? = some t → formE st.gen (i : Int) t = 0 := fun i t hi => by
  have hlt := (List.getElem?_eq_some_iff.1 hi).1
  rw [st.texts_length] at hlt
  have := h.few
  exact form_ok h.g (by omega) (h.small t (List.mem_of_getElem? hi))
theorem Vt.Ok.places_length {st : Vt} (h : st.Ok) : st.places.length = 64 * st.a := by
  have := h.qn
  unfold Vt.places
  rw [List.length_append, plB_length h.p0, plB_length h.p1]
  omega
theorem Vt.Ok.rest_length {st : Vt} (h : st.Ok) : (formsX 1 st.gen 0 st.texts ++ List.replicate (64 * (st.m - st.used)) 0).length = 64 * st.m := by
  have := h.room
  unfold Vt.used at *
  rw [List.length_append, formsX_length, List.length_replicate]
  omega
theorem Vt.Ok.bytes_length {st : Vt} (h : st.Ok) : st.bytes.length = st.n * 64 := by
  have := h.qn
  unfold Vt.bytes
  rw [List.length_append, h.places_length, h.rest_length]
  omega
/-- the device shows it, and nothing waits -/
structure DevOk (d : Dv) (st : Vt) : Prop where
  up : d.Up
  n : d.n = st.n
  L : d.L = []
  view : d.view = st.bytes
theorem DevOk.part0 {d : Dv} {st : Vt} (h : DevOk d st) (k : st.Ok) : d.part 0 st.q = plB st.q st.p0 := by
  unfold Dv.part
  rw [h.view, Nat.mul_zero, List.drop_zero]
  unfold Vt.bytes Vt.places
  rw [List.append_assoc, List.take_left' (plB_length k.p0)]
theorem DevOk.part1 {d : Dv} {st : Vt} (h : DevOk d st) (k : st.Ok) : d.part st.q st.q = plB st.q st.p1 := by
  unfold Dv.part
  rw [h.view]
  unfold Vt.bytes Vt.places
  rw [List.append_assoc, List.drop_left' (plB_length k.p0), List.take_left' (plB_length k.p1)]
theorem DevOk.part2 {d : Dv} {st : Vt} (h : DevOk d st) (k : st.Ok) : d.part st.a st.m = formsX 1 st.gen 0 st.texts ++ List.replicate (64 * (st.m - st.used)) 0 := by
  unfold Dv.part
  rw [h.view]
  unfold Vt.bytes
  rw [List.drop_left' k.places_length, List.take_of_length_le (by rw [k.rest_length]; exact Nat.le_refl _)]
theorem DevOk.scanned {d : Dv} {st : Vt} (h : DevOk d st) (k : st.Ok) : Scanned st.gen (d.part st.a st.m) st.texts := by
  rw [h.part2 k]
  exact scanned_forms k.forms
theorem DevOk.scanned_no {d : Dv} {st : Vt} (h : DevOk d st) (k : st.Ok) {other : Nat} (hne : st.gen ≠ other) : Scanned other (d.part st.a st.m) [] := by
  rw [h.part2 k]
  exact scanned_other hne k.forms

/-- a vault's journal: the records of the changes in their part, all flushed -/
structure JouOk (J : Jn) (st : Vt) : Prop where
  run : ∃ V, RunP J st.n st.a st.m st.gen V st.texts [] ∧ V.take (64 * st.a) = st.places
  L : J.d.L = []
theorem JouOk.dev {J : Jn} {st : Vt} (h : JouOk J st) (k : st.Ok) : DevOk J.d st := by
  obtain ⟨V, h1, h2⟩ := h.run
  have hq := k.qn
  refine ⟨h1.up, h1.dn, h.L, ?_⟩
  rw [h1.view]
  unfold laidAt
  rw [h2, hq.2.2.2.1, List.drop_of_length_le (by rw [h1.vlen]; omega), List.append_nil, List.append_nil]
  show st.places ++ (formsX 1 st.gen 0 st.texts ++ (formsX 0 st.gen _ [] ++ _)) = _
  rw [show formsX 0 st.gen st.texts.length [] = [] from rfl, List.nil_append]
  rfl
/-- as journal.Open makes it of what the device shows -/
theorem JouOk.opened {J : Jn} {d : Dv} {st : Vt} (h : DevOk d st) (k : st.Ok) (hr : RunP J st.n st.a st.m st.gen d.view st.texts []) (hL : J.d.L = []) : JouOk J st := by
  refine ⟨⟨d.view, hr, ?_⟩, hL⟩
  rw [h.view]
  unfold Vt.bytes
  rw [List.take_left' k.places_length]

/-! ### a change -/
def Vt.noted (st : Vt) (c : Chg) : Vt := { st with cs := st.cs ++ [c] }
def Vt.turned (st : Vt) (c : Chg) : Vt :=
  { st with gen := st.gen + 1, next := st.q - st.next, base := c.on st.x, cs := [],
            p0 := if st.next = 0 then some (st.gen + 1, c.on st.x) else st.p0, p1 := if st.next = 0 then st.p1 else some (st.gen + 1, c.on st.x) }
/-- is there room in the journal -/
def Vt.fits (st : Vt) (c : Chg) : Prop := manyOf st.gen st.cs.length c.text ≤ st.m - st.used
/-- has the next checkpoint room -/
def Vt.turns (st : Vt) (c : Chg) : Prop := st.gen + 1 ≤ 1099511627776 ∧ secsUp (st.gen + 1) 0 (cpTexts (c.on st.x)) ≤ st.q
theorem Vt.noted_x (st : Vt) (c : Chg) : (st.noted c).x = c.on st.x := onAll_snoc _ _ _
theorem Vt.turned_x (st : Vt) (c : Chg) : (st.turned c).x = c.on st.x := rfl
theorem Vt.noted_texts (st : Vt) (c : Chg) : (st.noted c).texts = st.texts ++ [c.text] := by simp [Vt.texts, Vt.noted]
theorem Vt.Ok.noted {st : Vt} (h : st.Ok) {c : Chg} (hc : c.Ok) (hf : st.fits c) : (st.noted c).Ok := by
  refine ⟨h.n8, h.n4, h.g, h.p0, h.p1, fun d hd => ?_, ?_, h.cur⟩
  · simp only [Vt.noted, List.mem_append, List.mem_singleton] at hd
    rcases hd with hd | rfl
    · exact h.cs d hd
    · exact hc
  · show secsUp st.gen 0 (st.noted c).texts ≤ st.m
    rw [st.noted_texts, secsUp_snoc, Nat.zero_add, st.texts_length]
    have := h.room
    unfold Vt.used at this
    unfold Vt.fits Vt.used at hf
    omega
theorem Vt.Ok.next {st : Vt} (h : st.Ok) : st.next = 0 ∨ st.next = st.q := by
  rcases h.cur with ⟨_, e, _⟩ | ⟨_, e, _⟩ | ⟨_, e, _⟩
  · exact .inl e
  · exact .inr e
  · exact .inl e
theorem Vt.Ok.turned {st : Vt} (h : st.Ok) {c : Chg} (hc : c.Ok) (ht : st.turns c) : (st.turned c).Ok := by
  have hq := h.qn
  have hnew : PlOk st.q (some (st.gen + 1, c.on st.x)) := ⟨Chg.on_good hc h.good, by omega, ht.1, ht.2⟩
  refine ⟨h.n8, h.n4, ht.1, ?_, ?_, (fun d hd => by cases hd), Nat.zero_le _, ?_⟩
  · show PlOk st.q (if st.next = 0 then _ else _)
    split
    · exact hnew
    · exact h.p0
  · show PlOk st.q (if st.next = 0 then _ else _)
    split
    · exact h.p1
    · exact hnew
  · show _ ∨ (1 ≤ st.gen + 1 ∧ st.q - st.next = st.q ∧ (if st.next = 0 then some (st.gen + 1, c.on st.x) else st.p0) = some (st.gen + 1, c.on st.x) ∧ plG (if st.next = 0 then st.p1 else some (st.gen + 1, c.on st.x)) < st.gen + 1) ∨
      (1 ≤ st.gen + 1 ∧ st.q - st.next = 0 ∧ (if st.next = 0 then st.p1 else some (st.gen + 1, c.on st.x)) = some (st.gen + 1, c.on st.x) ∧ plG (if st.next = 0 then some (st.gen + 1, c.on st.x) else st.p0) < st.gen + 1)
    rcases h.cur with ⟨e1, e2, e3, e4, e5⟩ | ⟨e1, e2, e3, e4⟩ | ⟨e1, e2, e3, e4⟩
    · rw [if_pos e2, if_pos e2]
      exact .inr (.inl ⟨by omega, by omega, rfl, by rw [e4]; show 0 < _; omega⟩)
    · rw [if_neg (by omega), if_neg (by omega)]
      exact .inr (.inr ⟨by omega, by omega, rfl, by rw [e3]; show st.gen < _; omega⟩)
    · rw [if_pos e2, if_pos e2]
      exact .inr (.inl ⟨by omega, by omega, rfl, by rw [e3]; show st.gen < _; omega⟩)
/-- the places behind a turn -/
theorem Vt.Ok.laid {st : Vt} (h : st.Ok) {c : Chg} {X : List UInt8} (hX : X = plB st.q (some (st.gen + 1, c.on st.x))) :
    laidAt st.bytes st.next st.q X = (st.turned c).places ++ (formsX 1 st.gen 0 st.texts ++ List.replicate (64 * (st.m - st.used)) 0) := by
  have hq := h.qn
  unfold laidAt Vt.bytes Vt.places
  rcases h.next with e | e
  · have e1 : (st.turned c).p0 = some (st.gen + 1, c.on st.x) := if_pos e
    have e2 : (st.turned c).p1 = st.p1 := if_pos e
    rw [e1, e2, e, Nat.mul_zero, List.take_zero, List.nil_append, Nat.zero_add, hX, List.append_assoc, List.drop_left' (plB_length h.p0)]
    show _ = plB st.q _ ++ plB st.q _ ++ _
    rw [List.append_assoc]
  · have e1 : (st.turned c).p0 = st.p0 := if_neg (by omega)
    have e2 : (st.turned c).p1 = some (st.gen + 1, c.on st.x) := if_neg (by omega)
    rw [e1, e2, e, hX]
    show _ = plB st.q _ ++ plB st.q _ ++ _
    have e3 : ∀ C : List UInt8, (plB st.q st.p0 ++ (plB st.q st.p1 ++ C)).drop (64 * (st.q + st.q)) = C := fun C => by
      rw [← List.append_assoc]
      exact List.drop_left' (by rw [List.length_append, plB_length h.p0, plB_length h.p1]; omega)
    rw [List.append_assoc, List.take_left' (plB_length h.p0), e3, List.append_assoc]
/-- the journal of the next generation -/
theorem JouOk.turned {J : Jn} {st : Vt} (h : st.Ok) {c : Chg} (hc : c.Ok) (ht : st.turns c) {V : List UInt8} (hV : V = (st.turned c).places ++ (formsX 1 st.gen 0 st.texts ++ List.replicate (64 * (st.m - st.used)) 0)) (hr : RunP J st.n st.a st.m (st.gen + 1) V [] []) (hL : J.d.L = []) : JouOk J (st.turned c) := by
  refine ⟨⟨V, hr, ?_⟩, hL⟩
  rw [hV]
  exact List.take_left' (h.turned hc ht).places_length
/-- what a device shows behind the laying of the next checkpoint: no record of the next generation in the journal's part -/
theorem Vt.Ok.turn_part {st : Vt} (h : st.Ok) {c : Chg} (hc : c.Ok) (ht : st.turns c) {d : Dv} (hv : d.view = laidAt st.bytes st.next st.q (plB st.q (some (st.gen + 1, c.on st.x)))) :
    Scanned (st.gen + 1) (d.part st.a st.m) [] ∧ d.view = (st.turned c).places ++ (formsX 1 st.gen 0 st.texts ++ List.replicate (64 * (st.m - st.used)) 0) := by
  rw [h.laid rfl] at hv
  refine ⟨?_, hv⟩
  have e : d.part st.a st.m = formsX 1 st.gen 0 st.texts ++ List.replicate (64 * (st.m - st.used)) 0 := by
    have hpl : (st.turned c).places.length = 64 * st.a := (h.turned hc ht).places_length
    unfold Dv.part
    rw [hv, List.drop_left' hpl, List.take_of_length_le (by rw [h.rest_length]; exact Nat.le_refl _)]
  rw [e]
  exact scanned_other (by omega) h.forms
/-- a new device -/
def Vt.new (n : Nat) : Vt := ⟨n, 0, 0, none, none, [], []⟩
theorem Vt.new_ok {n : Nat} (h8 : 8 ≤ n) (h4 : n ≤ 4096) : (Vt.new n).Ok := ⟨h8, h4, Nat.zero_le _, trivial, trivial, fun c hc => (by cases hc), Nat.zero_le _, .inl ⟨rfl, rfl, rfl, rfl, rfl⟩⟩
theorem DevOk.new {n : Nat} (h8 : 8 ≤ n) (h4 : n ≤ 4096) : DevOk (Dv.new n) (Vt.new n) := by
  refine ⟨⟨by show (-1 : Int) < 0; omega, rfl⟩, rfl, rfl, ?_⟩
  have hq := (Vt.new_ok h8 h4).qn
  show List.replicate (n * 64) 0 = (List.replicate (64 * (Vt.new n).q) 0 ++ List.replicate (64 * (Vt.new n).q) 0) ++ ([] ++ List.replicate (64 * ((Vt.new n).m - 0)) 0)
  rw [List.nil_append, List.replicate_append_replicate, List.replicate_append_replicate]
  congr 1
  have : (Vt.new n).n = n := rfl
  omega
end Go.Proofs.YtjekcaoonaniaaaGreat
