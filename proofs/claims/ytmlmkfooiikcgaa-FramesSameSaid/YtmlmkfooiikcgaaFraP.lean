/-
  Contract of frames.Put.
-/
import Derived.Test.YtmlmkfooiikcgaaFraS
import Derived.Test.YtmlmkfooiikcgaaCrcE
import Derived.Deep.WholeRow
namespace Go.Proofs.Ytmlmkfooiikcgaa
open Go.ChangeShapes Go.WideShapes Go.ChangeAt Go.RowKit
set_option linter.unusedVariables false

theorem msg_info : (Try.prog.info? 26).map (·.size) = some 4 := by kernel_rfl
/-- a message's load, under a name: so that a walk takes it whole, behind a guard too ('attribute [local go_sem ↓] ldMsg_eq') -/
def ldMsg (p : Value) : Sem Value := Instr.loadAt 26 p
theorem ldMsg_eq (p : Value) : Instr.loadAt 26 p = ldMsg p := rfl
theorem ldMsg_run {w : World} {g : Nat} {a b c d : Value} (h : w.heap[g]? = some (.cells #[a, b, c, d] 26 (0, 0))) :
    (ldMsg (.pointer (some ⟨g, 0, none⟩))).run Try.prog w = .ok (.agg #[a, b, c, d]) w := by
  unfold ldMsg
  simp only [Instr.loadAt, Instr.sureAddr, Sem.run_bind, Sem.run_pure, Result.andThen_ok, run_loadVar_row w g 26 26 #[a, b, c, d] (0, 0) _ h Try.underlying26 rfl msg_info]
def P1 (m : Msg) : List UInt8 := headM m ++ encN m.ns ++ (numB m.b.length ++ m.b)
def P2 (m : Msg) : List UInt8 := P1 m ++ numB m.ls.length
theorem fieldsM_eq (m : Msg) : fieldsM m = P2 m ++ encT m.ls := rfl
theorem encN_split (ns : List Int) (i : Nat) : encN ns = encN (ns.take i) ++ encN (ns.drop i) := by
  unfold encN
  rw [← List.flatMap_append, List.take_append_drop]
theorem encT_split (ls : List (List UInt8)) (i : Nat) : encT ls = encT (ls.take i) ++ encT (ls.drop i) := by
  unfold encT
  rw [← List.flatMap_append, List.take_append_drop]
theorem part_len {m : Msg} (h : rightM m = true) (i j : Nat) : (headM m ++ encN (m.ns.take i)).length ≤ 70000 ∧ (P2 m ++ encT (m.ls.take j)).length ≤ 70000 ∧ (P1 m).length ≤ 70000 := by
  have h1 := fields_len h
  have h2 := congrArg List.length (encN_split m.ns i)
  have h3 := congrArg List.length (encT_split m.ls j)
  rw [fieldsM_eq] at h1
  unfold P2 P1 at h1 ⊢
  simp only [List.length_append] at h1 h2 h3 ⊢
  omega

set_option maxRecDepth 100000 in
theorem Put_no (m : Msg) (N B L : Option Addr) (nn nc bn bc ln lc : Nat) (w : World) (h : MsgAt w m N nn nc B bn bc L ln lc) (hr : rightM m = false) :
    Calls Try.prog 10 #[.agg #[.int .i64 m.k, .slice N nn nc, .slice B bn bc, .slice L ln lc]] w fun e w' => e = .returned (.tuple #[.slice none 0 0, .int .i64 3]) ∧ Below w.heap.size w w' := by
  have H := Lib.hid h; clear h
  obtain ⟨w1, hw1, hb1, hh1⟩ : ∃ w1, w.alloc (.cells #[.int .i64 m.k, .slice N nn nc, .slice B bn bc, .slice L ln lc] 26) = w1 ∧ Below w.heap.size w w1 ∧ w1.heap[w.heap.size]? = some (.cells #[.int .i64 m.k, .slice N nn nc, .slice B bn bc, .slice L ln lc] 26 (0, 0)) :=
    ⟨_, rfl, (Below.refl _ _).alloc (Nat.le_refl _) _, heap_alloc_new _ _⟩
  have hchk := Check_any m N B L nn nc bn bc ln lc w1 (H.out.below hb1)
  rw [chk_no hr] at hchk
  have Hb1 := Lib.hid hb1; clear hb1
  have Hh1 := Lib.hid hh1; clear hh1
  obtain ⟨k, hk⟩ : ∃ k, m.k = k := ⟨_, rfl⟩
  rw [hk] at hw1 Hh1 hchk ⊢
  have Hchk := Lib.hid hchk; clear hchk hk hr
  go_enter Try.func10, Try.ntmps10
  go_wp2_with (first | (go_at_call 12; refine Hchk.out.mono ?_; rintro e w2 ⟨rfl, hb2⟩; have Hb2 := Lib.hid (Hb1.out.trans (hb2.mono Hb1.out.size)); clear hb2) | (refine wpList_load_row rfl 26 (.tmp 1) rfl w.heap.size rfl 26 #[.int .i64 k, .slice N nn nc, .slice B bn bc, .slice L ln lc] (0, 0) _ Hh1.out Try.underlying26 rfl msg_info ?_))
  go_ret2
  exact ⟨rfl, Hb2.out⟩

/-- what Put hands back -/
def PutRet (m : Msg) (w : World) (e : Ending) (w' : World) : Prop :=
  ∃ A n c, e = .returned (.tuple #[.slice A n c, .int .i64 0]) ∧ (formM m).length = n ∧ w'.ownsRow w.heap.size 5 1 (.slice A n c) n (bytesV (formM m)) ∧ Below w.heap.size w w'
/-- where Put's writer stands -/
structure PutAt (w w2 : World) (xs : List UInt8) (r : Option Nat) (wr : World) : Prop where
  w : IsW wr w2.heap.size w2.heap.size r xs
  b : Below w2.heap.size w2 wr
theorem PutAt.num {w w2 : World} {xs ys : List UInt8} {r : Option Nat} {wr w' : World} (h : PutAt w w2 xs r wr) (hg : GrewW w2.heap.size w2.heap.size r ys wr w') : ∃ r', PutAt w w2 ys r' w' := by
  have hb := GrewW.below h.w hg
  obtain ⟨r', h1, _, _⟩ := hg
  exact ⟨r', h1, h.b.trans hb⟩

set_option maxRecDepth 100000 in
set_option maxHeartbeats 1000000 in
theorem Put_yes (m : Msg) (N B L : Option Addr) (nn nc bn bc ln lc : Nat) (w : World) (h : MsgAt w m N nn nc B bn bc L ln lc) (hr : rightM m = true) :
    Calls Try.prog 10 #[.agg #[.int .i64 m.k, .slice N nn nc, .slice B bn bc, .slice L ln lc]] w (PutRet m w) := by
  have H := Lib.hid h; clear h
  obtain ⟨w1, hw1, hb1, hh1⟩ : ∃ w1, w.alloc (.cells #[.int .i64 m.k, .slice N nn nc, .slice B bn bc, .slice L ln lc] 26) = w1 ∧ Below w.heap.size w w1 ∧ w1.heap[w.heap.size]? = some (.cells #[.int .i64 m.k, .slice N nn nc, .slice B bn bc, .slice L ln lc] 26 (0, 0)) :=
    ⟨_, rfl, (Below.refl _ _).alloc (Nat.le_refl _) _, heap_alloc_new _ _⟩
  have hchk := Check_any m N B L nn nc bn bc ln lc w1 (H.out.below hb1)
  rw [chk_yes hr] at hchk
  have hpart := part_len hr
  have hfl := fields_len hr
  obtain ⟨r1, r2, r3, r4, r5⟩ := right_parts hr
  obtain ⟨n1, n2⟩ := nums_parts r3
  obtain ⟨l1, l2, l3⟩ := lists_parts r5
  rw [H.out.n0] at n1
  rw [H.out.l0] at l1
  rw [H.out.b0] at r4
  have Hb1 := Lib.hid hb1; clear hb1
  have Hh1 := Lib.hid hh1; clear hh1
  obtain ⟨k, hk⟩ : ∃ k, m.k = k := ⟨_, rfl⟩
  rw [hk] at hw1 Hh1 hchk r1 r2 ⊢
  have Hk := Lib.hid hk
  have Hchk := Lib.hid hchk; have Hpart := Lib.hid hpart; have N2 := Lib.hid n2; have L2 := Lib.hid l2; have Hfl := Lib.hid hfl
  clear hchk hk hr hpart n2 l2 l3 r3 r5 hfl
  go_enter Try.func10, Try.ntmps10
  go_wp2_with (refine wpList_load_row rfl 26 (.tmp 1) rfl w.heap.size rfl 26 #[.int .i64 k, .slice N nn nc, .slice B bn bc, .slice L ln lc] (0, 0) _ Hh1.out Try.underlying26 rfl msg_info ?_)
  refine Hchk.out.mono ?_
  rintro e w2 ⟨rfl, hb2⟩
  have Hb2 := Lib.hid (Hb1.out.trans (hb2.mono Hb1.out.size))
  have Hh2 := Lib.hid (row_below Hh1.out hb2)
  have H2 := Lib.hid (H.out.below Hb2.out)
  have z0 : PutAt w w2 [] none (w2.alloc (.cells #[.slice none 0 0] 46)) := ⟨IsW.zero w2 w2.heap.size (Nat.le_refl _), (Below.refl _ _).alloc (Nat.le_refl _) _⟩
  have Z0 := Lib.hid z0
  have R := Lib.hid (fun (w' : World) (h : Below w2.heap.size w2 w') => row4 (row_below Hh2.out h))
  clear z0 hb2 hw1
  obtain ⟨⟨c0, c1, c2, c3⟩⟩ : Nonempty _ := ⟨R.out _ Z0.out.b⟩
  go_wp2_with fail
  refine (WNum_any w2.heap.size w2.heap.size none [] k _ Z0.out.w (by simp) (by omega) (by omega)).mono ?_
  rintro e w3 ⟨rfl, hg⟩
  obtain ⟨ra, hz⟩ := Z0.out.num hg
  rw [List.nil_append] at hz
  have Z1 := Lib.hid hz
  clear hz hg c0 c1 c2 c3
  obtain ⟨⟨c0, c1, c2, c3⟩⟩ : Nonempty _ := ⟨R.out _ Z1.out.b⟩
  go_wp2_with fail
  refine (WNum_any w2.heap.size w2.heap.size ra _ (nn : Int) _ Z1.out.w (by have := numB_len9 (n := k.toNat) (by omega); omega) (by omega) (by omega)).mono ?_
  rintro e w4 ⟨rfl, hg⟩
  obtain ⟨rb, hz⟩ := Z1.out.num hg
  rw [show ((nn : Int)).toNat = nn by omega] at hz
  have hz' : PutAt w w2 (headM m) rb w4 := by unfold headM; rw [Hk.out, H.out.n0]; exact hz
  have Z2 := Lib.hid hz'
  clear hz hz' hg c0 c1 c2 c3
  obtain ⟨⟨c0, c1, c2, c3⟩⟩ : Nonempty _ := ⟨R.out _ Z2.out.b⟩
  go_wp2_with fail
  clear c0 c1 c2 c3
  go_loopw [25] (fun iv wr => ∃ (i : Nat) (r : Option Nat), iv = .int .i64 (i : Int) ∧ i ≤ nn ∧ PutAt w w2 (headM m ++ encN (m.ns.take i)) r wr) (fun iv _ => nn - (intOf iv).toNat)
  case atStart => exact ⟨0, rb, rfl, by omega, by simpa [encN] using Z2.out⟩
  case round =>
    obtain ⟨i, r, rfl, hi, hz⟩ := hrel
    have Z := Lib.hid hz; clear hz
    by_cases hlt : i < nn
    · obtain ⟨g, o, x, hA, hx, hc⟩ := (H2.out.ns.below Z.out.b).num (j := i) (by have := H.out.n0; omega)
      subst hA
      have hxr := N2.out x (List.mem_of_getElem? hx)
      have Hx := Lib.hid hx; clear hx
      go_wp2_with (go_at_call 20; refine (WNum_any w2.heap.size w2.heap.size r _ x wr Z.out.w (by have := (Hpart.out i 0).1; omega) (by omega) (by omega)).mono ?_; rintro e w5 ⟨rfl, hg⟩; have Hg := Lib.hid hg; clear hg)
      go_roundw
      case rel =>
        obtain ⟨r', hz⟩ := Z.out.num Hg.out
        exact ⟨i + 1, r', by go_num, by omega, by rw [encN_take Hx.out, ← List.append_assoc]; exact hz⟩
      case measure => simp [intOf]; omega
    · obtain rfl : i = nn := by omega
      have hz := Z.out
      rw [← H.out.n0, List.take_length] at hz
      have Z3 := Lib.hid hz
      clear hz
      obtain ⟨⟨c0, c1, c2, c3⟩⟩ : Nonempty _ := ⟨R.out _ Z3.out.b⟩
      go_wp2_with fail
      have hp1 := (Hpart.out 0 0).2.2
      have hp0 := (Hpart.out m.ns.length 0).1
      rw [List.take_length] at hp0
      refine (WText_any w2.heap.size w2.heap.size r _ m.b B bn bc wr Z3.out.w (by omega) H.out.b0 (by omega) (fun w' ht => H2.out.b.below (Z3.out.b.trans (keep Z3.out.w ht)))).mono ?_
      rintro e w6 ⟨rfl, hg⟩
      obtain ⟨rc, hz⟩ := Z3.out.num hg
      have hz' : PutAt w w2 (P1 m) rc w6 := by unfold P1; rw [H.out.b0]; exact hz
      have Z4 := Lib.hid hz'
      clear hz hz' hg c0 c1 c2 c3
      obtain ⟨⟨c0, c1, c2, c3⟩⟩ : Nonempty _ := ⟨R.out _ Z4.out.b⟩
      go_wp2_with fail
      refine (WNum_any w2.heap.size w2.heap.size rc _ (ln : Int) _ Z4.out.w (by omega) (by omega) (by omega)).mono ?_
      rintro e w7 ⟨rfl, hg⟩
      obtain ⟨rd, hz⟩ := Z4.out.num hg
      rw [show ((ln : Int)).toNat = ln by omega] at hz
      have hz' : PutAt w w2 (P2 m) rd w7 := by unfold P2; rw [H.out.l0]; exact hz
      have Z5 := Lib.hid hz'
      clear hz hz' hg c0 c1 c2 c3
      obtain ⟨⟨c0, c1, c2, c3⟩⟩ : Nonempty _ := ⟨R.out _ Z5.out.b⟩
      obtain ⟨ps, p1, p2⟩ := H2.out.ls
      have Q1 := Lib.hid p1; have Q2 := Lib.hid p2
      clear p1 p2
      go_wp2_with fail
      clear c0 c1 c2 c3
      go_loopw [42] (fun iv wr => ∃ (i : Nat) (r : Option Nat), iv = .int .i64 (i : Int) ∧ i ≤ ln ∧ PutAt w w2 (P2 m ++ encT (m.ls.take i)) r wr) (fun iv _ => ln - (intOf iv).toNat)
      case atStart => exact ⟨0, rd, rfl, by omega, by simpa [encT] using Z5.out⟩
      case round =>
        obtain ⟨i2, r', rfl, hi2, hz⟩ := hrel
        have Y := Lib.hid hz; clear hz
        by_cases hlt2 : i2 < ln
        · obtain ⟨g, o, P, q, cc, x, rfl, hx, hlx, hsx, hc⟩ := lists_at Q1.out Q2.out (j := i2) (by have := H.out.l0; omega)
          rw [← Y.out.b.cell (p := ⟨g, o + i2, none⟩) (block_lt_of_cell hc)] at hc
          have hxr := L2.out x (List.mem_of_getElem? hx)
          have Hx := Lib.hid hx; have Hlx := Lib.hid hlx; have Hsx := Lib.hid hsx
          clear hx hlx hsx
          go_wp2_with (go_at_call 21; refine (WText_any w2.heap.size w2.heap.size r' _ x P q cc _ Y.out.w (by have := (Hpart.out 0 i2).2.1; omega) Hlx.out (by have := Hlx.out; omega) (fun w' ht => Hsx.out.below (Y.out.b.trans (keep Y.out.w ht)))).mono ?_; rintro e w8 ⟨rfl, hg⟩; have Hg := Lib.hid hg; clear hg)
          go_roundw
          case rel =>
            obtain ⟨r'', hz⟩ := Y.out.num Hg.out
            rw [← Hlx.out] at hz
            exact ⟨i2 + 1, r'', by go_num, by omega, by rw [encT_take Hx.out, ← List.append_assoc]; exact hz⟩
          case measure => simp [intOf]; omega
        · obtain rfl : i2 = ln := by omega
          have hz := Y.out
          rw [← H.out.l0, List.take_length, ← fieldsM_eq] at hz
          have Y2 := Lib.hid hz
          clear hz
          go_wp2_with fail
          refine (WBytes_any w2.heap.size w2.heap.size r' (fieldsM m) _ Y2.out.w (by have := Hfl.out; omega)).mono ?_
          rintro e w9 ⟨A9, c9, rfl, hown9, hb9⟩
          have Hb9 := Lib.hid (Y2.out.b.trans (hb9.mono Y2.out.b.size))
          rw [bytes_length] at hown9 ⊢
          have Hown9 := Lib.hid hown9
          clear hown9 hb9
          obtain ⟨q9, hq9⟩ : ∃ q, (fieldsM m).length = q := ⟨_, rfl⟩
          rw [hq9] at Hown9 ⊢
          have Hq9 := Lib.hid hq9; clear hq9
          go_wp2_with fail
          refine (Seal_n A9 q9 c9 (fieldsM m) _ Hq9.out (Seen.of_own Hown9.out) (by have := Hfl.out; have := Hq9.out; omega)).mono ?_
          rintro e w10 ⟨A10, c10, rfl, hown10, hb10⟩
          have hb := (Hb2.out.trans (Hb9.out.mono Hb2.out.size)).trans (hb10.mono (Nat.le_trans Hb2.out.size Hb9.out.size))
          have ho := own_base hown10 (Nat.le_trans Hb2.out.size Hb9.out.size)
          have Hb := Lib.hid hb; have Ho := Lib.hid ho
          rw [bytes_length] at Ho ⊢
          clear hb ho hown10 hb10
          go_wp2
          go_ret2
          exact ⟨A10, _, c10, rfl, rfl, Ho.out, Hb.out⟩
end Go.Proofs.Ytmlmkfooiikcgaa
