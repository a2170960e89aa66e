/-
  Contract of (*heap.Heap).All. Conditions: a heap in memory.
-/
import Derived.Test.YtbfjakchgmdldaaHomSort
import Derived.Test.YtbfjakchgmdldaaNums
import Derived.Laws.MakeOwn
namespace Go.Proofs.Ytbfjakchgmdldaa
open Go.ChangeShapes Go.WideShapes Go.ChangeAt Go.RowKit Go.Maps Go.Sort
set_option linter.unusedVariables false

/-- the names of entries -/
def namesE (x : List Ent) : List Int := x.map (·.1)
theorem namesE_length (x : List Ent) : (namesE x).length = x.length := by simp [namesE]
theorem namesE_take {x : List Ent} {i : Nat} {r : Ent} (h : x[i]? = some r) : namesE (x.take (i + 1)) = namesE (x.take i) ++ [r.1] := by
  obtain ⟨hk, rfl⟩ := List.getElem?_eq_some_iff.1 h
  unfold namesE
  rw [List.take_succ_eq_append_getElem hk, List.map_append]
  rfl
theorem int_info : (Try.prog.info? 3).map (fun i => (i.zero, i.size, i.bytes)) = some (some (.int .i64 0), 1, 8) := by kernel_rfl
section
variable {P : Program} {w : World}
/-- make([]T, 0, c) -/
theorem wpList_make {ops : Array Oper} {rest : List Oper} {o : Oper} {a : Act} {Q : Exit → Act → World → Prop} (hgd : o.guard = none) (t e : TypeId) (x : Operand) (ho : o.op = .makeSlice t (.const (.int .i64 0)) x)
    (z : Value) (size bytes : Nat) (ht : P.underlying t = some (.slice e)) (hinfo : (P.info? e).map (fun i => (i.zero, i.size, i.bytes)) = some (some z, size, bytes)) (c : Nat) (hx : a.eval x = .int .i64 (c : Int)) (hbytes : bytes * c ≤ 281474976710656) (h63 : c ≤ maxLen)
    (h : ∀ w', w'.ownsRow w.heap.size e size (.slice (some ⟨w.heap.size, 0, none⟩) 0 c) 0 [] → Below w.heap.size w w' → wpList P ops Q rest (a.put o.dst (.slice (some ⟨w.heap.size, 0, none⟩) 0 c)) w') : wpList P ops Q (o :: rest) a w :=
  wpList_plain hgd fun K hK => by
    obtain ⟨i, hi, hz, hs, hb⟩ := info_parts hinfo
    obtain ⟨w', hrun, h1, h2⟩ := run_make_own w w.heap.size t e i z size ht hi hz hs .i64 .i64 c (by rw [hb]; exact hbytes) h63 (Nat.le_refl _)
    unfold Oper.wp execOp
    have hc : a.eval (.const (.int .i64 0)) = .int .i64 0 := rfl
    simp only [ho, Sem.run_bind, Sem.run_pure, hx, hc, hrun, Result.andThen_ok]
    exact hK _ _ (h w' h1 ((Below.refl _ _).grown h2 (Nat.le_refl _) fun k hk => by cases hk))
end
/-- what All hands back -/
def AllRet (x : List Ent) (w : World) (en : Ending) (w' : World) : Prop :=
  ∃ A c, en = .returned (.slice A x.length c) ∧ w'.ownsRow w.heap.size 3 1 (.slice A x.length c) x.length (numsV (namesE x)) ∧ Below w.heap.size w w'

set_option maxRecDepth 100000 in
set_option maxHeartbeats 2000000 in
theorem All_any (B : Nat) (h : Home) (q m : Option Nat) (x : List Ent) (w : World) (H : HeapAt w B h q m x) (hl : x.length ≤ 50000) :
    Calls Try.prog 41 #[.pointer (some ⟨h.b, h.o, none⟩)] w (AllRet x w) := by
  obtain ⟨t, ks, f, H1, T, hm, hg, _⟩ := H
  have hp := hg.perm T hm
  have hlen := hp.length_eq
  have hsort := sortE_is hp hg
  obtain ⟨A, c, hrow, hown, -⟩ := H1.row
  have a0 : w.cell? ⟨h.b, h.o, none⟩ = some (.slice A t.length c) := h.cell0 hrow
  obtain ⟨n, hn⟩ : ∃ n, x.length = n := ⟨_, rfl⟩
  have Hown := Lib.hid hown; have Hsort := Lib.hid hsort; have Hlen := Lib.hid hlen; have Hn := Lib.hid hn
  have hn5 : n ≤ 50000 := by omega
  have hcl : Calls Try.prog 49 #[.slice A n c] w (CloneRet t w) := by
    have := Clone_any B A c t w hown (by omega)
    rwa [hlen, hn] at this
  have Hcl := Lib.hid hcl
  rw [hlen, hn] at a0
  clear H1 T hm hg hp hlen hsort hrow hown hn hl hcl
  go_enter Try.func41, Try.ntmps41
  go_wp2_with (first
    | (go_at_call 49; refine Hcl.out.mono ?_; rintro e w1 ⟨A1, c1, rfl, h1, b1⟩; have H1 := Lib.hid h1; have B1 := Lib.hid b1; rw [Hlen.out, Hn.out]; clear h1 b1)
    | (go_at_call 50; refine (show Calls _ _ #[.slice A1 n c1, .func (.func 51) #[] #[]] w1 _ from (by have := Sort_any w.heap.size A1 c1 t w1 H1.out (by have := Hlen.out; have := Hn.out; omega); rw [Hlen.out, Hn.out, Hsort.out] at this; exact this)).mono ?_; rintro e w2 ⟨rfl, h2, b2⟩; have H2 := Lib.hid h2; have B2 := Lib.hid (B1.out.trans b2); clear h2 b2)
    | (refine wpList_make rfl _ 3 (.tmp 15) rfl _ 1 8 Try.underlying33 int_info n rfl (by omega) (by unfold maxLen; omega) ?_; intro w3 h3 b3; have H3 := Lib.hid (own_baseM h3 B2.out.size); have R3 := Lib.hid (own_belowM H2.out b3); have B3 := Lib.hid (B2.out.trans (b3.mono B2.out.size)); clear h3 b3))
  go_loopw [4, 6, 19] (fun sv bv iv wr => ∃ (i : Nat) (A' : Option Addr) (c' : Nat), i ≤ n ∧ iv = .int .i64 (i : Int) ∧ sv = .slice A' i c' ∧ wr.ownsRow w.heap.size 3 1 (.slice A' i c') i (numsV (namesE (x.take i))) ∧ wr.ownsRow w.heap.size 88 2 (.slice A1 n c1) n (entsV x) ∧ Below w.heap.size w wr) (fun _ _ iv _ => n - (intOf iv).toNat)
  case atStart => exact ⟨0, _, _, by omega, rfl, rfl, H3.out, R3.out, B3.out⟩
  case round =>
    obtain ⟨i, A', c', hin, rfl, rfl, ho, hr, hb⟩ := hrel
    by_cases hi : i < n
    · obtain ⟨g, cc, hf, hg1, hg2⟩ := hr.form (by omega)
      injection hf with hf1 _ hf2
      subst hf1
      subst hf2
      obtain ⟨r, hx⟩ : ∃ r, x[i]? = some r := ⟨_, List.getElem?_eq_getElem (by have := Hn.out; omega)⟩
      obtain ⟨d0, d1⟩ := own_two hr hx
      obtain ⟨Wa, hWa, hba, xa, -⟩ := new_box wr r
      obtain ⟨Wb, hWb⟩ : ∃ Wb, Wa.alloc (.cells #[.int .i64 r.1] 3) = Wb := ⟨_, rfl⟩
      have hbb : Below wr.heap.size wr Wb := by rw [← hWb]; exact hba.trans (((Below.refl _ _).alloc (Nat.le_refl _) _).mono hba.size)
      have hsb : Seen Wb (some ⟨Wa.heap.size, 0, none⟩) [.int .i64 r.1] := by rw [← hWb]; exact Seen.of_cells (heap_alloc_new Wa _)
      have Ho := Lib.hid (own_belowM ho hbb); have Hr := Lib.hid (own_belowM hr hbb); have Hb := Lib.hid (hb.trans (hbb.mono hb.size)); have Hsb := Lib.hid hsb; have Hx := Lib.hid hx
      have i0 : (0 : Int) ≤ (i : Int) := by omega
      have i1 : (i : Int) < (n : Int) := by omega
      clear ho hr hb hba hbb hsb hx
      go_wp2_with (at_builtin; refine wpList_app2 rfl (.tmp 23) (.tmp 26) _ rfl 3 _ 8 Try.underlying33 int_info rfl w.heap.size A' i c' (numsV (namesE (x.take i))) rfl Ho.out (some ⟨Wa.heap.size, 0, none⟩) 1 1 [.int .i64 r.1] rfl rfl Hsb.out (fun u hu => by simp at hu; subst hu; rfl) (by unfold maxLen; omega) (by omega) Hb.out.size ?_; intro A4 c4 w4 hown4 hg4 hbk4; have Hown4 := Lib.hid hown4; have Hg4 := Lib.hid hg4; clear hown4 hg4 hbk4)
      go_roundw
      case rel =>
        have tg : Turned (fun k => (Value.slice A' i c').ownBlock = some k) Wb w4 := Turned.of_grown Hg4.out fun k e => e
        refine ⟨i + 1, A4, c4, by omega, by go_num, rfl, ?_, ?_, ?_⟩
        · have := Hown4.out
          rw [namesE_take Hx.out, numsV_append]
          exact this
        · refine own_turnedM tg Hr.out fun k hk e => ?_
          obtain ⟨cs1, e1⟩ := row_blockM Hr.out hk
          obtain ⟨cs2, e2⟩ := row_blockM Ho.out e
          rw [e1] at e2
          injection e2 with e2
          injection e2 with _ e2
          exact absurd e2 (by decide)
        · exact Hb.out.trans (tg.below (fun k e => (Ho.out.lt k e).1) Hb.out.size)
      case measure => simp [intOf]; omega
    · obtain rfl : i = n := by omega
      have i1 : ¬ (i : Int) < (i : Int) := by omega
      have hty : x.take i = x := List.take_of_length_le (by rw [Hn.out]; exact Nat.le_refl _)
      rw [hty] at ho
      have Ho := Lib.hid ho; have Hb := Lib.hid hb
      clear ho hr hb hty
      go_wp2
      go_ret
      unfold AllRet
      rw [Hn.out]
      exact ⟨A', c', rfl, Ho.out, Hb.out⟩
end Go.Proofs.Ytbfjakchgmdldaa
