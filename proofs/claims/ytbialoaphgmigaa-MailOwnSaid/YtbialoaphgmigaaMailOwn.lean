/-
  MailOwn: letters are by themselves; a full class refuses, others take. For every input, without conditions.
-/
import Derived.Test.YtbialoaphgmigaaMailS
import Derived.Test.YtbialoaphgmigaaLaw
import Derived.OwnWalk
namespace Go.Proofs.Ytbialoaphgmigaa.mailOwn
open Go.ChangeShapes Go.WideShapes Go.ChangeAt Go.RowKit Go.Conc Go.Proofs.Ytbialoaphgmigaa
set_option linter.unusedVariables false

/-- what the box holds: one in class cc (if p1), one in d (if p2) -/
def qs (cc d : Nat) (v1 v2 : Value) (p1 p2 : Bool) (k : Nat) : List Value := if k = cc then (if p1 then [v1] else []) else if k = d then (if p2 then [v2] else []) else []
theorem qs_of {cc d : Nat} (v1 v2 : Value) (h : cc ≠ d) (k : Nat) : qs cc d v1 v2 true true k = if k = d then (if d = cc then [] ++ [v1] else []) ++ [v2] else if k = cc then [] ++ [v1] else [] := by
  unfold qs
  by_cases e1 : k = cc
  · subst e1
    simp [h]
  · by_cases e2 : k = d
    · subst e2
      simp [e1]
    · simp [e1, e2]
theorem qs_cc {cc d : Nat} (v1 v2 : Value) (h : cc ≠ d) (p2 : Bool) (k : Nat) : qs cc d v1 v2 false p2 k = if k = cc then [] else qs cc d v1 v2 true p2 k := by
  unfold qs
  by_cases e1 : k = cc <;> simp [e1]
theorem qs_d {cc d : Nat} (v1 v2 : Value) (h : cc ≠ d) (p1 : Bool) (k : Nat) : qs cc d v1 v2 p1 false k = if k = d then [] else qs cc d v1 v2 p1 true k := by
  unfold qs
  by_cases e1 : k = cc
  · subst e1
    simp [h]
  · by_cases e2 : k = d
    · subst e2
      simp [e1]
    · simp [e1, e2]
/-- which is next -/
theorem next_of {cc d : Nat} (v1 v2 : Value) (h : cc ≠ d) (h1 : cc < 3) (h2 : d < 3) {p1 p2 : Bool} (hp : 0 < p1.toNat + p2.toNat) :
    ∃ m v, m < 3 ∧ qs cc d v1 v2 p1 p2 m = [v] ∧ (∀ k, k < m → qs cc d v1 v2 p1 p2 k = []) ∧ ((m = cc ∧ v = v1 ∧ p1 = true) ∨ (m = d ∧ v = v2 ∧ p2 = true)) := by
  have q1 : qs cc d v1 v2 p1 p2 cc = if p1 then [v1] else [] := by unfold qs; rw [if_pos rfl]
  have q2 : qs cc d v1 v2 p1 p2 d = if p2 then [v2] else [] := by unfold qs; rw [if_neg (fun e => h e.symm), if_pos rfl]
  have q3 : ∀ k, k ≠ cc → k ≠ d → qs cc d v1 v2 p1 p2 k = [] := fun k e1 e2 => by unfold qs; rw [if_neg e1, if_neg e2]
  cases p1 with
  | true =>
    by_cases e : d < cc ∧ p2 = true
    · obtain ⟨e1, rfl⟩ := e
      refine ⟨d, v2, h2, q2, fun k hk => q3 k (by omega) (by omega), .inr ⟨rfl, rfl, rfl⟩⟩
    · refine ⟨cc, v1, h1, q1, fun k hk => ?_, .inl ⟨rfl, rfl, rfl⟩⟩
      by_cases ek : k = d
      · subst ek
        rw [q2, if_neg (fun e2 => e ⟨hk, e2⟩)]
      · exact q3 k (by omega) ek
  | false =>
    cases p2 with
    | false => simp at hp
    | true =>
      refine ⟨d, v2, h2, q2, fun k hk => ?_, .inr ⟨rfl, rfl, rfl⟩⟩
      by_cases ek : k = cc
      · subst ek
        rw [q1]; rfl
      · exact q3 k ek (by omega)
/-- where the letters' loop stands -/
structure OwnAt (w : World) (g cc d : Nat) (c : Nat → Nat) (A1 A3 : Option Addr) (n c1 c3 : Nat) (bs : List UInt8) (p1 p2 : Bool) (wr : World) : Prop where
  b : Below w.heap.size w wr
  s : Seen wr A1 (bytesV bs)
  q : IsB wr g c 1 (qs cc d (letV 1 2 A1 n c1) (letV 9 0 A3 0 c3) p1 p2)
theorem byte_succ (z : UInt8) : (((z + 1).toNat : Nat) : Int) = ((z.toNat : Int) + 1) % 256 := by
  rw [UInt8.toNat_add]
  simp
/-- a byte's cells, some turned -/
structure MineAt (B n c2 : Nat) (A2 : Option Addr) (w5 wr : World) : Prop where
  o : ∃ zs : List UInt8, zs.length = n ∧ wr.ownsRow B 5 1 (.slice A2 n c2) n (bytesV zs)
  t : Turned (fun k => (Value.slice A2 n c2).ownBlock = some k) w5 wr
theorem MineAt.set {B n c2 m i : Nat} {w5 wr : World} {z : UInt8} (h : MineAt B n c2 (some ⟨m, 0, none⟩) w5 wr) : MineAt B n c2 (some ⟨m, 0, none⟩) w5 (wr.setCell ⟨m, i, none⟩ (byteV z)) := by
  obtain ⟨zs, hz, ho⟩ := h.o
  obtain ⟨h1, h2⟩ := ho.stored i (byteV z)
  refine ⟨⟨zs.set i z, by simpa using hz, ?_⟩, h.t.setCell (b := ⟨m, i, none⟩) (fun _ => rfl) _⟩
  have : bytesV (zs.set i z) = (bytesV zs).set i (byteV z) := by unfold bytesV; rw [List.map_set]
  rw [this]
  exact h1

attribute [local go_sem ↓] ldLet_eq
set_option maxRecDepth 100000 in
set_option maxHeartbeats 2000000 in
theorem walk_in (A : Option Addr) (n c0 : Nat) (bs : List UInt8) (z : Int) (cc d : Nat) (w : World) (hn : bs.length = n) (hnc : n ≤ c0) (hcm : c0 ≤ maxLen) (hs : Seen w A (bytesV bs)) (hl : n ≤ 20)
    (hcc : (wrap64 z).tmod 3 = (cc : Int)) (hc3 : cc < 3) (hdd : ((cc : Int) + 1) % 3 = (d : Int)) (hd3 : d < 3) (hne : cc ≠ d) :
    Calls Try.prog 5 #[.slice A n c0, .int .u8 z] w fun e w' => e = .returned (.bool true) ∧ Below w.heap.size w w' := by
  have Hn := Lib.hid hn; have Hs := Lib.hid hs
  clear hn hs
  have hli : ¬ (20 : Int) < (n : Int) := by omega
  go_enter Try.func5, Try.ntmps5
  go_wp2_with fail
  refine (New_yes 1 w (by omega) (by omega)).mono ?_
  rintro e w1 ⟨g, c, rfl, hb1, hg, hc, hl1⟩
  have Hb1 := Lib.hid hb1; have Hc := Lib.hid hc; have Hl1 := Lib.hid hl1; have Hg := Lib.hid hg
  have hs1 := Hs.out.below hl1
  have hown0 : (w1.alloc (.cells #[] 5)).ownsRow w1.heap.size 5 1 (.slice (some ⟨w1.heap.size, 0, none⟩) 0 0) 0 [] := World.ownsRow_lit w1 #[] 0 (Nat.le_refl _) (by unfold maxLen; omega) rfl
  have hb0 : Below w1.heap.size w1 (w1.alloc (.cells #[] 5)) := (Below.refl _ _).alloc (Nat.le_refl _) _
  have H0 := Lib.hid hown0; have Hb0 := Lib.hid hb0; have Hs1 := Lib.hid hs1
  clear hb1 hg hc hl1 hs1 hown0 hb0
  go_wp2_with (at_builtin; refine wpList_app rfl (.tmp 23) (.tmp 24) _ rfl 5 _ 1 Try.underlying27 u8_info rfl w1.heap.size (some ⟨w1.heap.size, 0, none⟩) 0 0 [] rfl H0.out A n c0 (bytesV bs) rfl (by rw [bytes_length]; exact Hn.out) (Hs1.out.below Hb0.out) (bytes_one _) (by unfold maxLen; omega) (by omega) (by simp) ?_; intro A2 c2 w2 hown2 hb2; simp only [Nat.zero_add, List.nil_append] at hown2; have Hown2 := Lib.hid hown2; have Hb2 := Lib.hid (Hb0.out.trans hb2); clear hown2 hb2; simp only [Nat.zero_add])
  refine (Post_yes g 1 c (fun _ => []) 1 2 cc A2 n c2 bs w2 (Hb1.out.below Hb2.out) hc3 Hn.out (by omega) (Seen.of_own Hown2.out) (by simp)).mono ?_
  rintro e w3 ⟨A1, c1, rfl, hb3, hown3, ht3⟩
  have hB2 := Hb2.out.size
  have Hl2 := Lib.hid (Hl1.out.trans (Hb2.out.mono Hl1.out.size))
  have Hl3 := Lib.hid (below_box Hl2.out ht3 (Hc.out cc hc3) (Nat.le_refl _))
  have Hb3 := Lib.hid hb3; have Hown3 := Lib.hid hown3
  have hm3 := ht3.own Hown2.out (fun k hk e => by have h1 := (Hown2.out.lt k hk).1; have h2 := Hb1.out.clt hc3; omega)
  have Hm3 := Lib.hid hm3
  clear hb3 hown3 ht3 hm3
  go_wp2_with fail
  refine (Post_full g 1 c _ 0 0 cc none 0 0 [] w3 Hb3.out hc3 rfl (by omega) (Seen.nil _ _) (by simp)).mono ?_
  rintro e w4 ⟨rfl, hb4⟩
  have Hb4 := Lib.hid (Hb3.out.below hb4); have Hl4 := Lib.hid (Hl3.out.trans (hb4.mono Hl3.out.size)); have Hown4 := Lib.hid (own_below Hown3.out hb4); have Hm4 := Lib.hid (own_below Hm3.out hb4)
  clear hb4
  go_wp2_with fail
  rw [hdd]
  refine (Post_yes g 1 c _ 9 0 d none 0 0 [] w4 Hb4.out hd3 rfl (by omega) (Seen.nil _ _) (by simp; intro e; omega)).mono ?_
  rintro e w5 ⟨A3, c3, rfl, hb5, hown5, ht5⟩
  have Hl5 := Lib.hid (below_box Hl4.out ht5 (Hc.out d hd3) (Nat.le_refl _))
  have Hown6 := Lib.hid (ht5.own Hown4.out (fun k hk e => by have h1 := (Hown4.out.lt k hk).1; have h2 := Hb1.out.clt hd3; omega))
  have Hm5 := Lib.hid (ht5.own Hm4.out (fun k hk e => by have h1 := (Hm4.out.lt k hk).1; have h2 := Hb1.out.clt hd3; omega))
  have Hb5 := Lib.hid (show IsB w5 g c 1 (qs cc d (letV 1 2 A1 n c1) (letV 9 0 A3 0 c3) true true) from hb5.same (fun k hk => qs_of _ _ hne k))
  clear hb5 hown5 ht5
  go_wp2
  go_loopw [8] (fun iv wr => ∃ i : Nat, i ≤ n ∧ iv = .int .i64 (i : Int) ∧ MineAt w1.heap.size n c2 A2 w5 wr) (fun iv _ => n - (intOf iv).toNat)
  case atStart => exact ⟨0, by omega, rfl, ⟨bs, Hn.out, Hm5.out⟩, Turned.refl _ _⟩
  case round =>
    obtain ⟨i, hi, rfl, hm⟩ := hrel
    have Hm := Lib.hid hm
    clear hm
    by_cases hlt : i < n
    · have k0 : (0 : Int) ≤ (i : Int) := by omega
      have k1 : (i : Int) < (n : Int) := by omega
      obtain ⟨zs, hz, ho⟩ := Hm.out.o
      obtain ⟨m, cap, hv, hm1, hm2⟩ := ho.form (by omega)
      injection hv with hA hx hcp
      subst hA
      subst hcp
      obtain ⟨z0, hz0⟩ : ∃ z0, zs[i]? = some z0 := ⟨_, List.getElem?_eq_getElem (by omega)⟩
      have hcell : wr.cell? ⟨m, i, none⟩ = some (.int .u8 (z0.toNat : Int)) := by
        rw [ho.cellAt i (by omega)]
        unfold bytesV
        rw [List.getElem?_map, hz0]
        rfl
      have hfr := ho.frozenAt i
      clear ho hz0 hz hx
      go_wp2
      go_roundw
      case rel =>
        refine ⟨i + 1, by omega, by go_num, ?_⟩
        have := Hm.out.set (i := i) (z := z0 + 1)
        unfold byteV at this
        rw [byte_succ] at this
        exact this
      case measure => simp [intOf]; omega
    · have k1 : ¬ (i : Int) < (n : Int) := by omega
      obtain rfl : i = n := by omega
      have hown := Hm.out.t
      have Hat := Lib.hid (show OwnAt w g cc d c A1 A3 i c1 c3 bs true true wr from
        ⟨Hl5.out.trans (Hm.out.t.below (fun k hk => by have := (Hown2.out.lt k hk).1; have := Hl1.out.size; omega) Hl5.out.size),
         Seen.of_own (Hm.out.t.own Hown6.out (fun k hk e => by have h1 := (Hown6.out.lt k hk).1; have h2 := (Hown2.out.lt k e).2; omega)),
         Hb5.out.turned Hm.out.t (fun e => by have := (Hown2.out.lt _ e).1; have := Hb1.out.lt; omega) (fun k hk e => by have := (Hown2.out.lt _ e).1; have := Hb1.out.clt hk; omega)⟩)
      have HA1 := Lib.hid (show ∀ g' o, A1 = some ⟨g', o, none⟩ → w2.heap.size ≤ g' from fun g' o e => (Hown6.out.lt g' (by subst e; rfl)).1)
      have Hclt := Lib.hid (show ∀ j, j < 3 → c j < w1.heap.size from fun j hj => Hb1.out.clt hj)
      clear hown hi hlt
      go_wp2
      go_loopw [9] (fun iv wr => ∃ (p1 p2 : Bool) (t : Nat), iv = .int .i64 (t : Int) ∧ p1.toNat + p2.toNat + t = 2 ∧ OwnAt w g cc d c A1 A3 i c1 c3 bs p1 p2 wr) (fun iv _ => 2 - (intOf iv).toNat)
      case atStart => exact ⟨true, true, 0, rfl, rfl, Hat.out⟩
      case round =>
        obtain ⟨p1, p2, t, rfl, htt, hat⟩ := hrel
        have Hq := Lib.hid hat
        clear hat
        by_cases hlt : t < 2
        · have j0 : (0 : Int) ≤ (t : Int) := by omega
          have j1 : (t : Int) < 2 := by omega
          obtain ⟨m, v, hm, hqm, hlow, hwhich⟩ := next_of (letV 1 2 A1 i c1) (letV 9 0 A3 0 c3) hne hc3 hd3 (p1 := p1) (p2 := p2) (by omega)
          rcases hwhich with ⟨rfl, rfl, rfl⟩ | ⟨rfl, rfl, rfl⟩
          · have Hlow := Lib.hid hlow; have Hqm := Lib.hid hqm
            clear hlow hqm
            go_wp2_with fail
            refine (Next_some g 1 c _ m 1 2 A1 i c1 [] wr Hq.out.q hm Hlow.out Hqm.out).mono ?_
            rintro e wa ⟨rfl, hba, hta⟩
            have Hla := Lib.hid (below_box Hq.out.b hta (Hc.out m hm) (Nat.le_refl _))
            obtain ⟨wb, hwb, hxb, hhb⟩ : ∃ wb, wa.alloc (.cells #[.int .i64 1, .int .i64 2, .slice A1 i c1] 29) = wb ∧ Below wa.heap.size wa wb ∧ wb.heap[wa.heap.size]? = some (.cells #[.int .i64 1, .int .i64 2, .slice A1 i c1] 29 (0, 0)) :=
              ⟨_, rfl, (Below.refl _ _).alloc (Nat.le_refl _) _, heap_alloc_new _ _⟩
            have Hlb := Lib.hid (Hla.out.trans (hxb.mono Hla.out.size))
            have Hsb := Lib.hid ((hta.seen Hq.out.s (fun g' o e1 e2 => by have h1 := HA1.out g' o e1; have h2 := Hclt.out m hm; omega)).below hxb)
            have Hqb := Lib.hid (hba.below hxb)
            clear hba hta hxb
            have hld := ldLet_run hhb
            have hsm := LSame_yes 1 2 A1 A i c1 c0 bs wb Hn.out (by omega) Hsb.out (Hs.out.below Hlb.out)
            rw [letV_eq, letV_eq] at hsm
            have Hsm := Lib.hid hsm
            clear hhb hsm
            rw [letV_eq]
            go_wp2_with (first
              | (refine wpList_store_row rfl 29 (.tmp 10) (.tmp 68) rfl wa.heap.size #[.int .i64 1, .int .i64 2, .slice A1 i c1] rfl rfl 29 _ (heap_alloc_new _ _) letter_size rfl (by simp [Value.oneCell']) ?_; rw [World.setRow_alloc_new, hwb])
              | (go_at_call 12; refine Hsm.out.mono ?_; rintro e wc ⟨rfl, hbc⟩; have Hlc := Lib.hid (Hlb.out.trans (hbc.mono Hlb.out.size)); have Hsc := Lib.hid (Hsb.out.below hbc); have Hqc := Lib.hid (Hqb.out.below hbc); clear hbc))
            go_roundw
            case rel => exact ⟨false, p2, t + 1, by go_num, by simp at htt ⊢; omega, Hlc.out, Hsc.out, Hqc.out.same (fun k _ => qs_cc _ _ hne p2 k)⟩
            case measure => simp [intOf]; omega
          · have Hlow := Lib.hid hlow; have Hqm := Lib.hid hqm
            clear hlow hqm
            go_wp2_with fail
            refine (Next_some g 1 c _ m 9 0 A3 0 c3 [] wr Hq.out.q hm Hlow.out Hqm.out).mono ?_
            rintro e wa ⟨rfl, hba, hta⟩
            have Hla := Lib.hid (below_box Hq.out.b hta (Hc.out m hm) (Nat.le_refl _))
            obtain ⟨wb, hwb, hxb, hhb⟩ : ∃ wb, wa.alloc (.cells #[.int .i64 9, .int .i64 0, .slice A3 0 c3] 29) = wb ∧ Below wa.heap.size wa wb ∧ wb.heap[wa.heap.size]? = some (.cells #[.int .i64 9, .int .i64 0, .slice A3 0 c3] 29 (0, 0)) :=
              ⟨_, rfl, (Below.refl _ _).alloc (Nat.le_refl _) _, heap_alloc_new _ _⟩
            have Hlb := Lib.hid (Hla.out.trans (hxb.mono Hla.out.size))
            have Hsb := Lib.hid ((hta.seen Hq.out.s (fun g' o e1 e2 => by have h1 := HA1.out g' o e1; have h2 := Hclt.out m hm; omega)).below hxb)
            have Hqb := Lib.hid (hba.below hxb)
            clear hba hta hxb
            have hf : wb.cell? ⟨wa.heap.size, 0, none⟩ = some (.int .i64 9) := row_cell hhb 0
            have hdc : ¬ (m : Int) = (cc : Int) := by omega
            clear hhb
            rw [letV_eq]
            go_wp2_with (refine wpList_store_row rfl 29 (.tmp 10) (.tmp 68) rfl wa.heap.size #[.int .i64 9, .int .i64 0, .slice A3 0 c3] rfl rfl 29 _ (heap_alloc_new _ _) letter_size rfl (by simp [Value.oneCell']) ?_; rw [World.setRow_alloc_new, hwb])
            go_roundw
            case rel => exact ⟨p1, false, t + 1, by go_num, by simp at htt ⊢; omega, Hlb.out, Hsb.out, Hqb.out.same (fun k _ => qs_d _ _ hne p1 k)⟩
            case measure => simp [intOf]; omega
        · have j1 : ¬ (t : Int) < 2 := by omega
          have hpp : p1 = false ∧ p2 = false := by
            cases p1 <;> cases p2 <;> simp at htt ⊢ <;> omega
          obtain ⟨rfl, rfl⟩ := hpp
          simp at htt
          subst htt
          have Hz := Lib.hid (show IsB wr g c 1 (fun _ => []) from Hq.out.q.same (fun k _ => by unfold qs; by_cases e1 : k = cc <;> by_cases e2 : k = d <;> simp [e1, e2]))
          go_wp2_with fail
          refine (Len_yes g 1 c (fun _ => []) 0 wr Hz.out (by omega)).mono ?_
          rintro e wa ⟨rfl, rfl⟩
          go_wp2_with fail
          refine (Len_yes g 1 c (fun _ => []) 1 wr Hz.out (by omega)).mono ?_
          rintro e wa ⟨rfl, rfl⟩
          go_wp2_with fail
          refine (Len_yes g 1 c (fun _ => []) 2 wr Hz.out (by omega)).mono ?_
          rintro e wa ⟨rfl, rfl⟩
          go_wp2_with fail
          refine (Len_no g 1 c (fun _ => []) 7 wr (by omega)).mono ?_
          rintro e wa ⟨rfl, rfl⟩
          go_wp2_with fail
          refine (awake_any wr).mono ?_
          rintro e wa ⟨rfl, hba⟩
          have Hla := Lib.hid (Hq.out.b.trans (hba.mono Hq.out.b.size))
          clear hba
          go_wp2
          go_ret
          exact ⟨rfl, Hla.out⟩

theorem cls3 {z : Int} (h0 : 0 ≤ z) (h1 : z < 256) : ∃ cc : Nat, (wrap64 z).tmod 3 = (cc : Int) ∧ cc < 3 := by
  have e : wrap64 z = z := by unfold wrap64; omega
  refine ⟨(z % 3).toNat, ?_, by omega⟩
  rw [e, Int.tmod_eq_emod_of_nonneg h0]
  omega

theorem walk (A : Option Addr) (n c0 : Nat) (bs : List UInt8) (z : Int) (w : World) (hn : bs.length = n) (hnc : n ≤ c0) (hcm : c0 ≤ maxLen) (hs : Seen w A (bytesV bs)) (hz : (Lit.int .u8 z).wf = true) :
    Calls Try.prog 5 #[.slice A n c0, .int .u8 z] w fun e w' => e = .returned (.bool true) ∧ Below w.heap.size w w' := by
  have hb := bounds_u8 hz
  by_cases hl : 20 < n
  · have hli : (20 : Int) < (n : Int) := by omega
    clear hn hs hnc hz
    go_enter Try.func5, Try.ntmps5
    go_wp2_with (go_at_call 6; refine (awake_any w).mono ?_; rintro e w1 ⟨rfl, hb⟩; have Hb := Lib.hid hb; clear hb)
    go_ret
    exact ⟨rfl, Hb.out⟩
  · obtain ⟨cc, h1, h2⟩ := cls3 hb.1 (by omega)
    exact walk_in A n c0 bs z cc ((cc + 1) % 3) w hn hnc hcm hs (by omega) h1 h2 (by omega) (by omega) (by omega)

/-! ### THE ROW -/
theorem own : ownKnob Try.prog.godebug = none := by kernel_rfl

set_option maxRecDepth 100000 in
theorem lifted (os : Os) (started : os.Started) (H : Type) (enc : TypeId × Value → H) :
    ReturnsInHanded {} Try.checked os 5 .any (Rows.mailOwnSpec.pre6 enc Try.prog Try.f5 Rows.mailOwnRow.domain false) (Rows.mailOwnSpec.post enc Try.prog Try.f5 false true false false) := by
  refine returnsInHanded_of_change (C := Try.checked) own started (by kernel_rfl) Try.func5
    (ChangeSpec.witness6 (enc := enc) (C := Try.checked) false ⟨#[], #[.slice none 0 0, .int .u8 0], []⟩ 8 (by kernel_rfl) (by kernel_rfl) (by kernel_rfl) (by kernel_rfl)) ?_
  intro W base args ds gs before hval0 hW hcnd _
  have hval : ∀ (j : Nat) t v, Try.f5.params[j]? = some t → args[j]? = some v → Value.okWide Try.prog W .any base t v := hval0
  have hW' := hW
  obtain ⟨p, q, hA0, hV, rfl, hfz, hnd⟩ := hW
  have hA : DataW.TrodAll enc Try.prog W 0 (fun _ => true) true Try.f5.params.toList args.toList ds p := hA0
  rw [Try.params5] at hA hval
  obtain ⟨v0, vs0, d0, ds0, p0, q0, hargs, rfl, rfl, h0, r0⟩ := trodAll_cons hA
  obtain ⟨v1, vs1, d1, ds1, p1, q1, rfl, rfl, rfl, h1, r1⟩ := trodAll_cons r0
  obtain ⟨rfl, rfl, rfl⟩ := trodAll_nil r1
  obtain rfl : args = #[v0, v1] := by cases args; simp_all
  obtain ⟨rfl, rfl⟩ := trodVars_none hV
  obtain ⟨A0, n0, c0, bs0, rfl, hn0, hnc0, hcm0, hsee0⟩ := open_bytes Try.underlying27 Try.underlying5 (by kernel_rfl) (hval 0 27 v0 rfl rfl) h0
  obtain ⟨a1, rfl, rfl, rfl, w1⟩ := open_int Try.underlying5 (hval 1 5 v1 rfl rfl) h1
  refine (walk A0 n0 c0 bs0 a1 W hn0 hnc0 hcm0 hsee0 w1).mono fun e W' ⟨he, hg⟩ => ?_
  subst he
  exact ⟨_, rfl, law_post hW' rfl (by kernel_rfl) (by kernel_rfl) (by kernel_rfl) Try.underlying4 rfl rfl rfl hg⟩

theorem over : Rows.mailOwnRow.holds Try.pinned (OpenSpec.ofChange Rows.mailOwnSpec) :=
  OpenClaim.holds_of_wide 5 Try.f5 rfl rfl rfl rfl rfl rfl rfl ⟨rfl, rfl, rfl, rfl, rfl⟩ rfl rfl rfl rfl rfl (by kernel_rfl) Try.func5 (by kernel_rfl)
    (of_decide_eq_true (by kernel_rfl)) (by unfold Func.isWrapper; first | (rw [if_pos (by decide +kernel)]; kernel_rfl) | (rw [if_neg (by decide +kernel)]; exact ⟨rfl, rfl⟩))
    (fun os started H enc _ => lifted os started H enc)

theorem proved : Rows.MailOwnSaid :=
  over
#print axioms proved

end Go.Proofs.Ytbialoaphgmigaa.mailOwn
