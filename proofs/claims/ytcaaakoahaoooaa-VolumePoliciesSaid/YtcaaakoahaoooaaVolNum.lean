/-
  An append of elements of several cells, and which block it may have written; contracts of volume's numbers, Servers and Volumes. Conditions: a state in memory.
-/
import Derived.Test.YtcaaakoahaoooaaVolFn
namespace Go.Proofs.Ytcaaakoahaoooaa
open Go.ChangeShapes Go.WideShapes Go.ChangeAt Go.RowKit
set_option linter.unusedVariables false

theorem int_info : (Try.prog.info? 3).map (fun i => (i.zero, i.size, i.bytes)) = some (some (.int .i64 0), 1, 8) := by kernel_rfl
section
variable {P : Program} {w : World}
theorem wpList_app3 {ops : Array Oper} {rest : List Oper} {o : Oper} {a : Act} {Q : Exit → Act → World → Prop} (hgd : o.guard = none) (s x : Operand) (t : TypeId)
    (ho : o.op = .call { callee := .builtin .append, args := #[s, x], argTypes := #[t, t] })
    (e : TypeId) (z : Value) (size bytes : Nat) (ht : P.underlying t = some (.slice e)) (hinfo : (P.info? e).map (fun i => (i.zero, i.size, i.bytes)) = some (some z, size, bytes)) (hz1 : z.cells.size = size) (hsz : 0 < size)
    (base : Nat) (A : Option Addr) (n c : Nat) (xs : List Value) (hs : a.eval s = .slice A n c) (hown : w.ownsRow base e size (.slice A n c) n xs)
    (g2 o2 m c2 : Nat) (news : List Value) (hx : a.eval x = .slice (some ⟨g2, o2, none⟩) m c2) (hm : news.length = m * size) (hsee : Seen w (some ⟨g2, o2, none⟩) news) (h1 : ∀ u ∈ news, u.oneCell' = true)
    (h63 : n + m ≤ maxLen) (hbytes : (n + m) * bytes ≤ 140737488355328) (hbase : base ≤ w.heap.size)
    (h : ∀ A' c' w', w'.ownsRow base e size (.slice A' (n + m) c') (n + m) (xs ++ news) → w.grownBy w' (Value.slice A n c).ownBlock → (∀ k, (Value.slice A' (n + m) c').ownBlock = some k → (Value.slice A n c).ownBlock = some k ∨ k = w.heap.size) →
      wpList P ops Q rest (a.put o.dst (.slice A' (n + m) c')) w') : wpList P ops Q (o :: rest) a w :=
  wpList_plain hgd fun K hK => by
    obtain ⟨i, hi, hz, hss, hb⟩ := info_parts hinfo
    have hcells : ∀ (j : Nat) u, news[j]? = some u → w.cell? ((⟨g2, o2, none⟩ : Addr).add j) = some u := by
      intro j u hu
      rcases hsee with rfl | ⟨g, o, hA, hc⟩
      · simp at hu
      · injection hA with hA
        rw [hA, Addr.add_lit]
        exact hc j u hu
    obtain ⟨v', w', hrun, hown', hg, _, hblk⟩ := run_append_own_at (P := P) w base t o.type e i z size bytes ht hi hz hss hb hz1 hsz _ n xs hown ⟨g2, o2, none⟩ m c2 news hm hcells h1 h63 hbytes hbase
    obtain ⟨A', c', rfl⟩ := own_formM hown'
    unfold Oper.wp execOp
    simp only [ho, resolve, invoke, builtin, Sem.run_bind, Sem.run_pure, Result.andThen_ok, List.map_toArray, List.map_cons, List.map_nil, hs, hx, hrun]
    refine hK _ _ (h A' c' w' hown' hg fun k hk => ?_)
    rcases hblk with h | h
    · exact .inl (by rw [← h]; exact hk)
    · rw [h] at hk
      injection hk with hk
      exact .inr hk.symm
end

/-- the numbers of chunks -/
def idsK (l : List Chk) : List Int := l.map (·.id)
theorem idsK_more {l : List Ck} {i : Nat} {k : Ck} (h : l[i]? = some k) : idsK ((l.take (i + 1)).map Ck.dat) = idsK ((l.take i).map Ck.dat) ++ [k.id] := by
  obtain ⟨hk, rfl⟩ := List.getElem?_eq_some_iff.1 h
  unfold idsK
  rw [List.take_succ_eq_append_getElem hk, List.map_append, List.map_append]
  rfl
attribute [local go_sem ↓] ldCk_eq
set_option maxRecDepth 100000 in
set_option maxHeartbeats 1000000 in
theorem Vnumbers_at (g q : Nat) (S : Sl) (X : List Ck) (w : World) (hc : w.cell? ⟨g, q + 6, none⟩ = some (.slice S.A S.n S.c)) (hk : KsT w S X) (hl : X.length ≤ 64) :
    Calls Try.prog 25 #[.pointer (some ⟨g, q, none⟩)] w (OwnRet 3 (numsV (idsK (X.map Ck.dat))) w) := by
  obtain ⟨A0, n, c0⟩ := S
  simp only at hc
  have hlen := hk.len
  simp only at hlen
  have Hk := Lib.hid hk; have Hn := Lib.hid hlen
  have hn6 : n ≤ 64 := by omega
  clear hk hlen hl
  go_enter Try.func25, Try.ntmps25
  go_wp2
  go_loopw [3, 11] (fun sv iv wr => ∃ (i : Nat) (A' : Option Addr) (c' : Nat), i ≤ n ∧ iv = .int .i64 (i : Int) ∧ sv = .slice A' i c' ∧ wr.ownsRow w.heap.size 3 1 (.slice A' i c') i (numsV (idsK ((X.take i).map Ck.dat))) ∧ Below w.heap.size w wr) (fun _ iv _ => n - (intOf iv).toNat)
  case atStart => exact ⟨0, _, _, by omega, rfl, rfl, World.ownsRow_nil _ _ _ _, Below.refl _ _⟩
  case round =>
    obtain ⟨i, A', c', hin, rfl, rfl, ho, hb⟩ := hrel
    by_cases hi : i < n
    · obtain ⟨k, hx⟩ : ∃ r, X[i]? = some r := ⟨_, List.getElem?_eq_getElem (by have := Hn.out; omega)⟩
      obtain ⟨g1, o1, hA, hat⟩ := (Hk.out.below hb).get hx
      simp only at hA
      subst hA
      have hld := ldCk_run hat
      obtain ⟨Wa, hWa, hba, hrow⟩ := ck_box wr k
      have d0 : Wa.cell? ⟨wr.heap.size, 0, none⟩ = some (.int .i64 k.id) := row_cell hrow 0
      obtain ⟨Wb, hWb⟩ : ∃ Wb, Wa.alloc (.cells #[.int .i64 k.id] 3) = Wb := ⟨_, rfl⟩
      have hbb : Below wr.heap.size wr Wb := by rw [← hWb]; exact hba.trans (((Below.refl _ _).alloc (Nat.le_refl _) _).mono hba.size)
      have hsb : Seen Wb (some ⟨Wa.heap.size, 0, none⟩) [.int .i64 k.id] := by rw [← hWb]; exact Seen.of_cells (heap_alloc_new Wa _)
      have Ho := Lib.hid (own_belowM ho hbb); have Hb := Lib.hid (hb.trans (hbb.mono hb.size)); have Hsb := Lib.hid hsb; have Hx := Lib.hid hx
      have i0 : (0 : Int) ≤ (i : Int) := by omega
      have i1 : (i : Int) < (n : Int) := by omega
      clear ho hb hba hbb hsb hx hat hrow
      go_wp2_with (at_builtin; refine wpList_app2 rfl (.tmp 15) (.tmp 18) _ rfl 3 _ 8 Try.underlying30 int_info rfl w.heap.size A' i c' (numsV (idsK ((X.take i).map Ck.dat))) rfl Ho.out (some ⟨Wa.heap.size, 0, none⟩) 1 1 [.int .i64 k.id] rfl rfl Hsb.out (fun u hu => by simp at hu; subst hu; rfl) (by unfold maxLen; omega) (by omega) Hb.out.size ?_; intro A4 c4 w4 hown4 hg4 hbk4; have Hown4 := Lib.hid hown4; have Hg4 := Lib.hid hg4; clear hown4 hg4 hbk4)
      go_roundw
      case rel =>
        have tg : Turned (fun k => (Value.slice A' i c').ownBlock = some k) Wb w4 := Turned.of_grown Hg4.out fun k e => e
        refine ⟨i + 1, A4, c4, by omega, by go_num, rfl, ?_, ?_⟩
        · have := Hown4.out
          rw [idsK_more Hx.out, numsV_append]
          exact this
        · exact Hb.out.trans (tg.below (fun k e => (Ho.out.lt k e).1) Hb.out.size)
      case measure => simp [intOf]; omega
    · obtain rfl : i = n := by omega
      have i1 : ¬ (i : Int) < (i : Int) := by omega
      have hty : X.take i = X := List.take_of_length_le (by rw [Hn.out]; exact Nat.le_refl _)
      rw [hty] at ho
      have Ho := Lib.hid ho; have Hb := Lib.hid hb
      clear ho hb hty
      go_wp2
      go_ret
      have el : (numsV (idsK (X.map Ck.dat))).length = i := by simp [numsV, idsK, Hn.out]
      unfold OwnRet
      rw [el]
      exact ⟨A', c', rfl, Ho.out, Hb.out⟩
theorem Vnumbers (g i : Nat) (s : St) (w : World) (h : StAt w g s) (hi : i < 64) (hl : (s.vs i).ks.length ≤ 64) :
    Calls Try.prog 25 #[.pointer (some ⟨g, 16 + i * 7, none⟩)] w (OwnRet 3 (numsV (idsK (s.vs i).ks)) w) := by
  obtain ⟨cs, K, X, h⟩ := h
  have := Vnumbers_at g (16 + i * 7) (K i) (X i) w (by rw [h.cell]; exact h.c6 i hi) (h.ks i hi) (by have := h.dat i hi; rw [← this] at hl; simpa using hl)
  rwa [h.dat i hi] at this
end Go.Proofs.Ytcaaakoahaoooaa
