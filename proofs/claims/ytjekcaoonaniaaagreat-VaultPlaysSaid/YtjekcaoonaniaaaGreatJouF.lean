/-
  Contract of journal.Form: the form, or the error. Conditions: integers in range; a text that reads as bytes, of 1,000,000 bytes at most.
-/
import Derived.Test.YtjekcaoonaniaaaGreatJouS
import Derived.Test.YtjekcaoonaniaaaGreatPackA
import Derived.Test.YtjekcaoonaniaaaGreatCrcD
import Derived.Test.YtjekcaoonaniaaaGreatSecS
import Derived.Test.YtjekcaoonaniaaaGreatSecN
import Derived.Test.YtjekcaoonaniaaaGreatMade
namespace Go.Proofs.YtjekcaoonaniaaaGreat
open Go.ChangeShapes Go.WideShapes Go.ChangeAt Go.RowKit
set_option linter.unusedVariables false

/-- what Form hands back -/
def FormRet (gen n : Int) (t : List UInt8) (w : World) (en : Ending) (w' : World) : Prop :=
  Below w.heap.size w w' ∧
  ((formE gen n t ≠ 0 ∧ en = .returned (.tuple #[.slice none 0 0, .int .i64 (formE gen n t : Int)])) ∨
   (formE gen n t = 0 ∧ ∃ b, en = .returned (.tuple #[.slice (some ⟨b, 0, none⟩) (64 * manyOf gen.toNat n.toNat t) (64 * manyOf gen.toNat n.toNat t), .int .i64 0]) ∧ w.heap.size ≤ b ∧
     w'.heap[b]? = some (.cells (bytesV (formX 1 gen.toNat n.toNat t)).toArray 5 (0, 0))))

set_option maxRecDepth 100000 in
theorem Form_range (gen n : Int) (A : Option Addr) (m c : Nat) (t : List UInt8) (w : World) (g1 : -9223372036854775808 ≤ gen) (g2 : gen ≤ 9223372036854775807) (n1 : -9223372036854775808 ≤ n) (n2 : n ≤ 9223372036854775807)
    (h : gen < 0 ∨ 1099511627776 < gen ∨ n < 0 ∨ 1099511627776 < n) :
    Calls Tryz.prog 63 #[.int .i64 gen, .int .i64 n, .slice A m c] w (FormRet gen n t w) := by
  have e : formE gen n t = 5 := if_pos h
  have E := Lib.hid e; clear e
  by_cases hg : 0 ≤ gen ∧ gen ≤ 1099511627776
  · have hn : ¬ (0 ≤ n ∧ n ≤ 1099511627776) := by omega
    have d1 := decide_eq_true hg
    have d2 := decide_eq_false hn
    have D1 := Lib.hid d1; have D2 := Lib.hid d2
    clear d1 d2 hg hn h
    go_enter Tryz.func63, Tryz.ntmps63
    go_wp2_with fail
    refine (counts_any gen w g1 g2).mono ?_
    rw [D1.out]
    rintro e w1 ⟨rfl, rfl⟩
    go_wp2_with fail
    refine (counts_any n w n1 n2).mono ?_
    rw [D2.out]
    rintro e w1 ⟨rfl, rfl⟩
    go_wp2
    go_ret2
    exact ⟨Below.refl _ _, .inl ⟨by rw [E.out]; simp, by rw [E.out]; rfl⟩⟩
  · have d1 := decide_eq_false hg
    have D1 := Lib.hid d1
    clear d1 hg h
    go_enter Tryz.func63, Tryz.ntmps63
    go_wp2_with fail
    refine (counts_any gen w g1 g2).mono ?_
    rw [D1.out]
    rintro e w1 ⟨rfl, rfl⟩
    go_wp2
    go_ret2
    exact ⟨Below.refl _ _, .inl ⟨by rw [E.out]; simp, by rw [E.out]; rfl⟩⟩
theorem in_range {gen n : Int} (h : ¬ (gen < 0 ∨ 1099511627776 < gen ∨ n < 0 ∨ 1099511627776 < n)) : decide (0 ≤ gen ∧ gen ≤ 1099511627776) = true ∧ decide (0 ≤ n ∧ n ≤ 1099511627776) = true :=
  ⟨decide_eq_true (by omega), decide_eq_true (by omega)⟩
set_option maxRecDepth 100000 in
theorem Form_long (gen n : Nat) (A : Option Addr) (m c : Nat) (t : List UInt8) (w : World) (hg : gen ≤ 1099511627776) (hn : n ≤ 1099511627776) (hm : t.length = m) (h : 1024 < m) :
    Calls Tryz.prog 63 #[.int .i64 (gen : Int), .int .i64 (n : Int), .slice A m c] w (FormRet gen n t w) := by
  have e : formE gen n t = 15 := by
    unfold formE
    rw [if_neg (by omega), if_pos]
    simp only [Int.toNat_natCast]
    rcases Nat.lt_or_ge 16 (manyOf gen n t) with h1 | h1
    · exact h1
    · have := text_small h1; omega
  have E := Lib.hid e; clear e
  obtain ⟨d1, d2⟩ := in_range (gen := gen) (n := n) (by omega)
  have D1 := Lib.hid d1; have D2 := Lib.hid d2
  clear d1 d2 hm
  have hml : (1024 : Int) < (m : Int) := by omega
  go_enter Tryz.func63, Tryz.ntmps63
  go_wp2_with fail
  refine (counts_any gen w (by omega) (by omega)).mono ?_
  rw [D1.out]
  rintro e w1 ⟨rfl, rfl⟩
  go_wp2_with fail
  refine (counts_any n w (by omega) (by omega)).mono ?_
  rw [D2.out]
  rintro e w1 ⟨rfl, rfl⟩
  go_wp2
  go_ret2
  exact ⟨Below.refl _ _, .inl ⟨by rw [E.out]; simp, by rw [E.out]; rfl⟩⟩

/-- the form's block, written cell by cell -/
theorem form_blk {w1 : World} {b N l : Nat} (hN : 3 ≤ N) (hl : l < 65536) (h : w1.heap[b]? = some (.cells (bytesV (List.replicate N 0)).toArray 5 (0, 0))) :
    (((w1.setCell ⟨b, 0, none⟩ (.int .u8 1)).setCell ⟨b, 1, none⟩ (.int .u8 ((l : Int) % 256))).setCell ⟨b, 2, none⟩ (.int .u8 ((l : Int) / 256))).heap[b]? =
      some (.cells (bytesV (headOf 1 l ++ List.replicate (N - 3) 0)).toArray 5 (0, 0)) := by
  rw [row_set (row_set (row_set h _ _) _ _)]
  obtain ⟨k, rfl⟩ : ∃ k, N = k + 3 := ⟨N - 3, by omega⟩
  have e1 : byteV (UInt8.ofNat l) = .int .u8 ((l : Int) % 256) := by simp [byteV]
  have e2 : byteV (UInt8.ofNat (l / 256)) = .int .u8 ((l : Int) / 256) := by simp [byteV]; omega
  rw [← e1, ← e2, show (.int .u8 1 : Value) = byteV 1 from rfl]
  simp [bytesV, headOf, List.replicate_succ]

/-- the rest put behind the head -/
theorem put_head {x : UInt8} {l N : Nat} {r : List UInt8} (h : 3 + r.length ≤ N) : put (headOf x l ++ List.replicate (N - 3) 0) 3 r = headOf x l ++ (r ++ List.replicate (N - (3 + r.length)) 0) := by
  have := put_zeros (a := headOf x l) (f := r) (m := N - 3) (by omega)
  rw [show (headOf x l).length = 3 from rfl] at this
  rw [this, List.append_assoc, Nat.sub_sub]
theorem below_three {w w7 : World} {b : Nat} (h : Below b w w7) (u v x : Value) : Below b w (((w7.setCell ⟨b, 0, none⟩ u).setCell ⟨b, 1, none⟩ v).setCell ⟨b, 2, none⟩ x) := by
  refine ⟨h.os, h.tape, h.output, by simpa [World.setCell] using h.size, fun k hk => ?_⟩
  rw [Below.heap_setCell _ _ _ _ (by show k ≠ b; omega), Below.heap_setCell _ _ _ _ (by show k ≠ b; omega), Below.heap_setCell _ _ _ _ (by show k ≠ b; omega)]
  exact h.block k hk
/-- the first three cells, as they are met -/
theorem form_three {w1 : World} {b N : Nat} (hN : 3 ≤ N) (h : w1.heap[b]? = some (.cells (bytesV (List.replicate N 0)).toArray 5 (0, 0))) :
    (w1.frozen? ⟨b, 0, none⟩ = false ∧ w1.cell? ⟨b, 0, none⟩ = some (.int .u8 0)) ∧ (∀ u, (w1.setCell ⟨b, 0, none⟩ u).frozen? ⟨b, 1, none⟩ = false ∧ (w1.setCell ⟨b, 0, none⟩ u).cell? ⟨b, 1, none⟩ = some (.int .u8 0)) ∧
    (∀ u v, ((w1.setCell ⟨b, 0, none⟩ u).setCell ⟨b, 1, none⟩ v).frozen? ⟨b, 2, none⟩ = false ∧ ((w1.setCell ⟨b, 0, none⟩ u).setCell ⟨b, 1, none⟩ v).cell? ⟨b, 2, none⟩ = some (.int .u8 0)) := by
  obtain ⟨k, rfl⟩ : ∃ k, N = k + 3 := ⟨N - 3, by omega⟩
  have hc : ∀ j, j < 3 → w1.cell? ⟨b, j, none⟩ = some (.int .u8 0) := fun j hj => by
    rw [row_cell h j, bytesV, List.map_replicate, List.getElem?_toArray, List.getElem?_replicate, if_pos (by omega)]
    rfl
  refine ⟨⟨row_frozen h 0, hc 0 (by omega)⟩, fun u => ⟨by rw [World.frozen?_setCell]; exact row_frozen h 1, ?_⟩, fun u v => ⟨by rw [World.frozen?_setCell, World.frozen?_setCell]; exact row_frozen h 2, ?_⟩⟩
  · rw [World.cell?_setCell_other _ _ _ _ (by simp)]; exact hc 1 (by omega)
  · rw [World.cell?_setCell_other _ _ _ _ (by simp), World.cell?_setCell_other _ _ _ _ (by simp)]; exact hc 2 (by omega)

set_option maxRecDepth 100000 in
set_option maxHeartbeats 4000000 in
theorem Form_in (gen n : Nat) (A : Option Addr) (m c : Nat) (t : List UInt8) (w : World) (hg : gen ≤ 1099511627776) (hn : n ≤ 1099511627776) (hm : t.length = m) (h : m ≤ 1024) (hs : Seen w A (bytesV t)) :
    Calls Tryz.prog 63 #[.int .i64 (gen : Int), .int .i64 (n : Int), .slice A m c] w (FormRet gen n t w) := by
  obtain ⟨d1, d2⟩ := in_range (gen := gen) (n := n) (by omega)
  have D1 := Lib.hid d1; have D2 := Lib.hid d2
  clear d1 d2
  obtain ⟨B, hB⟩ : ∃ B, w.heap.size = B := ⟨_, rfl⟩
  have HB := Lib.hid hB
  have Hs := Lib.hid hs; clear hs
  have Hm := Lib.hid hm
  have hnl := numB_len9 (n := n) (by omega)
  have hgl := numB_len9 (n := gen) (by omega)
  have htl := numB_len9 (n := t.length) (by omega)
  have hfl := fields_length gen n t
  have hrl := rest_length gen n t
  have Hl := Lib.hid (And.intro hnl (And.intro hgl (And.intro htl (And.intro hfl hrl))))
  have z0 := IsW.zero w B (by omega)
  rw [hB] at z0
  have Z0 := Lib.hid z0
  have hb0 := Lib.hid ((Below.refl B w).alloc (by omega) (.cells #[.slice none 0 0] 120))
  clear z0 hB hm hnl hgl htl hfl hrl
  have hmle : ¬ (1024 : Int) < (m : Int) := by omega
  go_enter Tryz.func63, Tryz.ntmps63
  go_wp2_with fail
  refine (counts_any gen w (by omega) (by omega)).mono ?_
  rw [D1.out]
  rintro e w1 ⟨rfl, rfl⟩
  go_wp2_with fail
  refine (counts_any n w (by omega) (by omega)).mono ?_
  rw [D2.out]
  rintro e w1 ⟨rfl, rfl⟩
  go_wp2_with fail
  rw [HB.out]
  refine (WNum_any B B none [] gen _ Z0.out (by simp) (by omega) (by omega)).mono ?_
  rintro e w1 ⟨rfl, hg1⟩
  have hb1 := Lib.hid (hb0.out.trans (GrewW.below Z0.out hg1))
  obtain ⟨r1, hw1, _, _⟩ := hg1
  rw [List.nil_append, show ((gen : Int)).toNat = gen from rfl] at hw1
  have Hw1 := Lib.hid hw1
  clear hw1
  go_wp2_with fail
  refine (WNum_any B B r1 (numB gen) n _ Hw1.out (by have := Hl.out; omega) (by omega) (by omega)).mono ?_
  rintro e w2 ⟨rfl, hg2⟩
  have hb2 := Lib.hid (hb1.out.trans (GrewW.below Hw1.out hg2))
  obtain ⟨r2, hw2, _, _⟩ := hg2
  rw [show ((n : Int)).toNat = n from rfl] at hw2
  have Hw2 := Lib.hid hw2
  clear hw2
  go_wp2_with fail
  refine (WText_any B B r2 (numB gen ++ numB n) t A m c w2 Hw2.out (by have := Hl.out; rw [List.length_append]; omega) Hm.out (by omega) (fun w' ht => Hs.out.below (HB.out ▸ hb2.out.trans (ht.below (fun k hk => by
    rcases hk with rfl | hk
    · exact Nat.le_refl _
    · exact (Hw2.out.lt.2 k hk).1) (by have := hb2.out.size; have := HB.out; omega))))).mono ?_
  rintro e w3 ⟨rfl, hg3⟩
  have hb3 := Lib.hid (hb2.out.trans (GrewW.below Hw2.out hg3))
  obtain ⟨r3, hw3, _, _⟩ := hg3
  rw [← Hm.out] at hw3
  have Hw3 := Lib.hid (show IsW w3 B B r3 (fieldsOf gen n t) from hw3)
  clear hw3
  go_wp2_with fail
  refine (WBytes_any B B r3 (fieldsOf gen n t) _ Hw3.out (by have := Hl.out; have := Hm.out; omega)).mono ?_
  rintro e w4 ⟨A4, c4, rfl, hown4, hb4⟩
  have Hb4 := Lib.hid (hb3.out.trans (hb4.mono (by have := hb3.out.size; have := HB.out; omega)))
  have Hs4 := Lib.hid (Seen.of_own hown4)
  clear hown4 hb4
  go_wp2_with fail
  refine (Seal_n A4 _ c4 (fieldsOf gen n t) w4 (bytes_length _).symm Hs4.out (by have := Hl.out; have := Hm.out; rw [bytes_length]; omega)).mono ?_
  rintro e w5 ⟨A5, c5, rfl, hown5, hb5⟩
  have Hb5 := Lib.hid (Hb4.out.trans (hb5.mono (by have := Hb4.out.size; have := HB.out; omega)))
  rw [show sealOf (fieldsOf gen n t) = restB gen n t from rfl] at hown5
  rw [show sealOf (fieldsOf gen n t) = restB gen n t from rfl, bytes_length]
  have Hs5 := Lib.hid (Seen.of_own hown5)
  clear hown5 hb5
  obtain ⟨l, hl⟩ : ∃ l, (restB gen n t).length = l := ⟨_, rfl⟩
  rw [hl]
  have hlb : l ≤ 1100 := by have := Hl.out; have := Hm.out; omega
  have Hll := Lib.hid hl; clear hl
  go_wp2_with fail
  refine (sectorsOf_any l w5 (by omega)).mono ?_
  rintro e w6 ⟨rfl, rfl⟩
  have hmany : manyOf gen n t = secsOf l := by unfold manyOf; rw [Hll.out]
  obtain ⟨q, hq⟩ : ∃ q, secsOf l = q := ⟨_, rfl⟩
  rw [hq] at hmany ⊢
  have hq2 : 3 + l ≤ 64 * q := by rw [← hq]; exact secs_le
  have hq3 : 1 ≤ q := by rw [← hq]; exact secs_pos l
  have Hq := Lib.hid hq; clear hq
  have Hmany := Lib.hid hmany; clear hmany
  have hE : formE gen n t = if 16 < q then 15 else 0 := by
    unfold formE
    rw [if_neg (by omega)]
    simp only [Int.toNat_natCast, Hmany.out]
  by_cases h16 : 16 < q
  · have hE2 : formE gen n t = 15 := by rw [hE, if_pos h16]
    have E := Lib.hid hE2; clear hE hE2
    have h16i : (16 : Int) < (q : Int) := by omega
    go_wp2
    go_ret2
    exact ⟨by rw [HB.out]; exact Hb5.out, .inl ⟨by rw [E.out]; simp, by rw [E.out]; rfl⟩⟩
  · have hE2 : formE gen n t = 0 := by rw [hE, if_neg h16]
    have E := Lib.hid hE2; clear hE hE2
    have h16i : ¬ (16 : Int) < (q : Int) := by omega
    obtain ⟨i0, hi, hz0, hz1, hz2⟩ := info_parts u8_info
    have hc3 : ¬ 64 * q = 3 := by omega
    have hc0 : (0 : Int) < ((64 * q : Nat) : Int) := by omega
    have hc1 : (1 : Int) < ((64 * q : Nat) : Int) := by omega
    have hc2 : (2 : Int) < ((64 * q : Nat) : Int) := by omega
    have hc4 : (3 : Int) ≤ ((64 * q : Nat) : Int) := by omega
    have hrest0 : 0 < l := by have := Hl.out; have := Hll.out; omega
    obtain ⟨g5, o5, hA5, hcs5⟩ : ∃ g5 o5, A5 = some ⟨g5, o5, none⟩ ∧ ∀ (j : Nat) v, (bytesV (restB gen n t))[j]? = some v → w5.cell? ⟨g5, o5 + j, none⟩ = some v := by
      rcases Hs5.out with e | h
      · have := congrArg List.length e
        rw [bytes_length, Hll.out] at this
        simp at this
        omega
      · exact h
    subst hA5
    have Hc5 := Lib.hid hcs5; clear hcs5
    go_wp2_with (first
      | (at_make; go_loud (refine wpList_make_full _ rfl (.tmp 39) (.tmp 39) _ rfl w5.heap.size 5 i0 (.int .u8 0) 1 Tryz.underlying31 hi hz0 hz1 .i64 .i64 _ _ (64 * q) rfl rfl (by omega) (by omega) (by rw [hz2]; omega) (by unfold maxLen; omega) (Nat.le_refl _) ?_; intro w7 hown hgr; rw [made_u8] at hown; have hblk := made_blk hown (by rw [bytes_length, List.length_replicate, Nat.mul_one]); obtain ⟨⟨f0, c0⟩, fc1, fc2⟩ := form_three (by omega) hblk; have f1 := fun u => (fc1 u).1; have c1 := fun u => (fc1 u).2; have f2 := fun u v => (fc2 u v).1; have c2 := fun u v => (fc2 u v).2; have Hblk := Lib.hid (form_blk (l := l) (by omega) (by omega) hblk); have Hgr := Lib.hid (fun u v x => below_three (Below.grown (Below.refl w5.heap.size w5) hgr (Nat.le_refl _) (fun k e => by cases e)) u v x); clear hown hgr hblk fc1 fc2))
      | (refine wpList_copy_at rfl (.tmp 55) (.tmp 56) _ _ rfl 5 Tryz.underlying31 u8_size _ _ _ _ _ _ rfl rfl w5.heap.size 3 _ _ Hblk.out (bytesV (restB gen n t)) (by rw [bytes_length, Hll.out]; exact (Nat.min_eq_left (by omega)).symm) (fun _ => ⟨rfl, _, rfl, fun j v hv => by rw [Addr.add_lit]; have h1 := Hc5.out j v hv; rw [(Hgr.out _ _ _).cell (block_lt_of_cell h1)]; exact h1⟩) (by rw [bytes_length, bytes_length, Hll.out]; simp [headOf]; omega) (bytes_one _) ?_; intro w9 h9 t9; have H9 := Lib.hid h9; have T9 := Lib.hid t9; clear h9 t9))
    go_ret2
    have hbs : w.heap.size ≤ w5.heap.size := Hb5.out.size
    have e9 := H9.out.out
    rw [splice_put, put_head (by rw [Hll.out]; exact hq2), Hll.out] at e9
    refine ⟨?_, .inr ⟨E.out, w5.heap.size, by rw [Int.toNat_natCast, Int.toNat_natCast, Hmany.out]; rfl, hbs, ?_⟩⟩
    · refine (Hb5.out.mono (Nat.le_of_eq HB.out)).trans ?_
      rw [HB.out]
      exact ((Hgr.out _ _ _).mono (by rw [← HB.out]; exact hbs)).trans (T9.out.below (fun k e => by rw [e, ← HB.out]; exact hbs) (by have := (Hgr.out (.int .u8 1) (.int .u8 ((l : Int) % 256)) (.int .u8 ((l : Int) / 256))).size; have := HB.out; omega))
    · rw [e9, Int.toNat_natCast, Int.toNat_natCast]
      unfold formX
      rw [Hll.out, ← Hq.out]
      rfl

/-- what Form does, in one -/
theorem Form_any (gen n : Int) (A : Option Addr) (m c : Nat) (t : List UInt8) (w : World) (g1 : -9223372036854775808 ≤ gen) (g2 : gen ≤ 9223372036854775807) (n1 : -9223372036854775808 ≤ n) (n2 : n ≤ 9223372036854775807)
    (hm : t.length = m) (hs : Seen w A (bytesV t)) : Calls Tryz.prog 63 #[.int .i64 gen, .int .i64 n, .slice A m c] w (FormRet gen n t w) := by
  by_cases h : gen < 0 ∨ 1099511627776 < gen ∨ n < 0 ∨ 1099511627776 < n
  · exact Form_range gen n A m c t w g1 g2 n1 n2 h
  · obtain ⟨g', rfl⟩ : ∃ g' : Nat, gen = (g' : Int) := ⟨gen.toNat, by omega⟩
    obtain ⟨n', rfl⟩ : ∃ n' : Nat, n = (n' : Int) := ⟨n.toNat, by omega⟩
    by_cases hl : 1024 < m
    · exact Form_long g' n' A m c t w (by omega) (by omega) hm hl
    · exact Form_in g' n' A m c t w (by omega) (by omega) hm (by omega) hs
end Go.Proofs.YtjekcaoonaniaaaGreat
