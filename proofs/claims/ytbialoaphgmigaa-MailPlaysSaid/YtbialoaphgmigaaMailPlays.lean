/-
  MailPlays: whatever is posted and taken, each answer, and how many there are, is the document's. For every input, without conditions.
-/
import Derived.Test.YtbialoaphgmigaaMailB
import Derived.Test.YtbialoaphgmigaaActs5
import Derived.Test.YtbialoaphgmigaaLaw
import Derived.Deep.RegionHeld3
import Derived.Deep.CutBlock
import Derived.Deep.MidRow
namespace Go.Proofs.Ytbialoaphgmigaa.mailPlays
open Go.ChangeShapes Go.WideShapes Go.ChangeAt Go.RowKit Go.Conc Go.Proofs.Ytbialoaphgmigaa
set_option linter.unusedVariables false

theorem act_size : (Try.prog.info? 31).map (·.size) = some 5 := by kernel_rfl
theorem ldLet_at {w : World} {g o : Nat} {a b c : Value} (h0 : w.cell? ⟨g, o, none⟩ = some a) (h1 : w.cell? ⟨g, o + 1, none⟩ = some b) (h2 : w.cell? ⟨g, o + 2, none⟩ = some c) :
    (ldLet (.pointer (some ⟨g, o, none⟩))).run Try.prog w = .ok (.agg #[a, b, c]) w := by
  have hr : w.rangeAt g o [a, b, c] := fun j v hv => by
    match j, hv with
    | 0, hv => simp at hv; subst hv; exact h0
    | 1, hv => simp at hv; subst hv; exact h1
    | 2, hv => simp at hv; subst hv; exact h2
  exact run_loadAt_mid w g o 29 [a, b, c] _ hr Try.underlying29 rfl letter_size

theorem item_ne {w : World} {base n c g : Nat} {A : Option Addr} {xs cs : List Value} (h : w.ownsRow base 35 4 (.slice A n c) n xs) (hg : w.heap[g]? = some (.cells cs.toArray 31 (0, 0))) : ¬ (Value.slice A n c).ownBlock = some g := fun e => by
  obtain ⟨cs', hb⟩ := row_blockM h e
  rw [hg] at hb
  injection hb with hb
  injection hb with _ e2
  exact absurd e2 (by decide)

attribute [local go_sem ↓] ldLet_eq
set_option maxRecDepth 100000 in
set_option maxHeartbeats 4000000 in
theorem walk_in (R : Nat) (A : Option Addr) (n c0 : Nat) (l : List Act5) (w : World) (hR1 : 1 ≤ R) (hR2 : R ≤ 20) (hn : l.length = n) (hl : n ≤ 100) (hs : Acts5At w A l) :
    Calls Try.prog 3 #[.int .i64 (R : Int), .slice A n c0] w fun e w' => e = .returned (.bool true) ∧ Below w.heap.size w w' := by
  have Hn := Lib.hid hn; have Hs := Lib.hid hs
  clear hn hs
  have hli : ¬ (100 : Int) < (n : Int) := by omega
  have hr1 : ¬ (20 : Int) < (R : Int) := by omega
  have hr2 : (1 : Int) ≤ (R : Int) := by omega
  go_enter Try.func3, Try.ntmps3
  go_wp2_with fail
  refine (New_yes R w hR1 (by omega)).mono ?_
  rintro e w1 ⟨g, c, rfl, hb1, hg, hc, hl1⟩
  have Hp1 := Lib.hid (show PlayAt w g c R [] [] none 0 0 w1 from ⟨hl1, BoxAt.drained hb1, ItsAt.nil _ _, fun x hx => absurd hx List.not_mem_nil, hg, hc⟩)
  clear hb1 hg hc hl1
  go_wp2
  go_loopw [6, 7] (fun xv iv wr => ∃ (i : Nat) (X : List It) (A' : Option Addr) (m cp : Nat), i ≤ n ∧ m ≤ i ∧ iv = .int .i64 (i : Int) ∧ xv = .slice A' m cp ∧ PlayAt w g c R X X A' m cp wr) (fun _ iv _ => n - (intOf iv).toNat)
  case atStart => exact ⟨0, [], none, 0, 0, by omega, by omega, rfl, rfl, Hp1.out⟩
  case round =>
    obtain ⟨i, X, A', m, cp, hin, hmi, rfl, rfl, hp⟩ := hrel
    have Hp := Lib.hid hp
    clear hp
    by_cases hi : i < n
    · obtain ⟨ga, o, ⟨d, cl, f, t, Ab, nb, cb, bs⟩, rfl, hget, hat⟩ := Hs.out.get (k := i) (by rw [Hn.out]; exact hi)
      have hat2 := hat.below Hp.out.b
      obtain ⟨a0, a1, a2, a3, a4, hbl, hbm, hbs⟩ := hat
      obtain ⟨b0, b1, b2, b3, b4, _, _, _⟩ := hat2
      simp only at a0 a1 a2 a3 a4 hbl hbm hbs b0 b1 b2 b3 b4
      have Hbs := Lib.hid hbs; have Hbl := Lib.hid hbl
      have i0 : (0 : Int) ≤ (i : Int) := by omega
      have i1 : (i : Int) < (n : Int) := by omega
      obtain ⟨w2, hw2, hx2, hh2⟩ : ∃ w2, wr.alloc (.cells #[.int .i64 d, .int .i64 cl, .int .i64 f, .int .i64 t, .slice Ab nb cb] 31) = w2 ∧ Below wr.heap.size wr w2 ∧ w2.heap[wr.heap.size]? = some (.cells #[.int .i64 d, .int .i64 cl, .int .i64 f, .int .i64 t, .slice Ab nb cb] 31 (0, 0)) :=
        ⟨_, rfl, (Below.refl _ _).alloc (Nat.le_refl _) _, heap_alloc_new _ _⟩
      have Hw2 := Lib.hid hw2
      have Hp2 := Lib.hid (Hp.out.below hx2)
      have c0' : w2.cell? ⟨wr.heap.size, 0, none⟩ = some (.int .i64 d) := row_cell hh2 0
      have c1' : w2.cell? ⟨wr.heap.size, 1, none⟩ = some (.int .i64 cl) := row_cell hh2 1
      have c4' : w2.cell? ⟨wr.heap.size, 4, none⟩ = some (.slice Ab nb cb) := row_cell hh2 4
      have hld : (ldLet (.pointer (some ⟨wr.heap.size, 2, none⟩))).run Try.prog w2 = .ok (.agg #[.int .i64 f, .int .i64 t, .slice Ab nb cb]) w2 := ldLet_at (row_cell hh2 2) (row_cell hh2 3) c4'
      have Hh2 := Lib.hid hh2
      clear a0 a1 a2 a3 a4 hget hbl hbs hw2 hx2 hh2
      by_cases hlong : 20 < nb
      · have hlo : (20 : Int) < (nb : Int) := by omega
        go_wp2_with (first
          | (refine wpList_store_row rfl 31 (.tmp 8) (.tmp 41) rfl wr.heap.size #[.int .i64 d, .int .i64 cl, .int .i64 f, .int .i64 t, .slice Ab nb cb] rfl rfl 31 _ (heap_alloc_new _ _) act_size rfl (by simp [Value.oneCell']) ?_; rw [World.setRow_alloc_new, Hw2.out])
          | (go_at_call 6; refine (awake_any w2).mono ?_; rintro e w3 ⟨rfl, hb3⟩; have Hb3 := Lib.hid (Hp2.out.b.trans (hb3.mono Hp2.out.b.size)); clear hb3))
        go_ret
        exact ⟨rfl, Hb3.out⟩
      · have hlo : ¬ (20 : Int) < (nb : Int) := by omega
        -- ROUNDS
        go_upto_block 2 with (refine wpList_store_row rfl 31 (.tmp 8) (.tmp 41) rfl wr.heap.size #[.int .i64 d, .int .i64 cl, .int .i64 f, .int .i64 t, .slice Ab nb cb] rfl rfl 31 _ (heap_alloc_new _ _) act_size rfl (by simp [Value.oneCell']) ?_; rw [World.setRow_alloc_new, Hw2.out])
        clear b0 b1 b2 b3 b4
        go_cut [6] (fun x6 wx => ∃ (X2 : List It) (A2 : Option Addr) (m2 cp2 : Nat), m2 ≤ i + 1 ∧ x6 = .slice A2 m2 cp2 ∧ PlayAt w g c R X2 X2 A2 m2 cp2 wx ∧ wx.cell? ⟨wr.heap.size, 1, none⟩ = some (.int .i64 cl))
        case first =>
          by_cases hd0 : d = 0
          · subst hd0
            by_cases hcl : 0 ≤ cl ∧ cl < 3
            · obtain ⟨k, rfl⟩ : ∃ k : Nat, cl = (k : Int) := ⟨cl.toNat, by omega⟩
              have hk : k < 3 := by omega
              have k0 : (0 : Int) ≤ (k : Int) := by omega
              have k2 : (k : Int) ≤ 2 := by omega
              obtain ⟨q, hqB, hqL⟩ := Hp2.out.q
              have HqB := Lib.hid hqB; have HqL := Lib.hid hqL
              obtain ⟨cn, hcn⟩ : ∃ cn, (ofCls (k : Int) X).length = cn := ⟨_, rfl⟩
              have hcnt := Count_any _ A' m cp X (k : Int) w2 Hp2.out.x (by omega)
              rw [hcn] at hcnt
              have Hcnt := Lib.hid hcnt
              have Hqn := Lib.hid (show (q k).length = cn by rw [(hqL k hk).1, hcn])
              clear hqB hqL hcn hcnt hcl
              by_cases hroom : cn < R
              · have hro : (cn : Int) < (R : Int) := by omega
                go_wp2_with (go_at_call 8; refine Hcnt.out.mono ?_; rintro e w3 ⟨rfl, rfl⟩)
                refine (Post_yes g R c q f t k Ab nb cb bs w2 HqB.out hk Hbl.out (by omega) (Hbs.out.below Hp2.out.b) (by rw [Hqn.out]; omega)).mono ?_
                rintro e w3 ⟨A3, c3, rfl, hb3, hown3, ht3⟩
                have hck : ∀ j, j = c k → TurnC w2 j := fun j e => by rw [e]; exact HqB.out.turnC hk
                have hne : ¬ wr.heap.size = c k := fun e => by
                  obtain ⟨_, _, _, _, _, _, e2⟩ := HqB.out.turnC hk
                  rw [← e, Hh2.out] at e2; cases e2
                have Hp3 := Lib.hid (Hp2.out.boxed ht3 hck (fun j e => ⟨k, hk, e⟩) (BoxAt.post (x := ⟨(k : Int), f, t, Ab, nb, cb, bs⟩) HqB.out HqL.out hk rfl hb3 hown3 ht3))
                have hh3 := ht3.heap Hh2.out hne
                have d1' : w3.cell? ⟨wr.heap.size, 1, none⟩ = some (.int .i64 (k : Int)) := row_cell hh3 1
                have hld3 : (ldLet (.pointer (some ⟨wr.heap.size, 2, none⟩))).run Try.prog w3 = .ok (.agg #[.int .i64 f, .int .i64 t, .slice Ab nb cb]) w3 := ldLet_at (row_cell hh3 2) (row_cell hh3 3) (row_cell hh3 4)
                have hal := Lib.hid ((Below.refl w3.heap.size w3).alloc (Nat.le_refl _) (.cells #[.int .i64 (k : Int), .int .i64 f, .int .i64 t, .slice Ab nb cb] 35))
                have hw3 : w.heap.size ≤ w3.heap.size := Hp3.out.b.size
                have Hh3 := Lib.hid hh3
                clear hb3 hown3 ht3 hck hne hh3
                go_wp2_with (at_builtin; go_loud (refine wpList_appm rfl (.tmp 77) (.tmp 83) _ rfl 35 _ 4 48 Try.underlying26 item_info rfl (by omega) w.heap.size A' m cp (itsV X) rfl (own_belowM Hp3.out.x.2 hal.out) w3.heap.size 0 1 1 [.int .i64 (k : Int), .int .i64 f, .int .i64 t, .slice Ab nb cb] rfl rfl (Seen.of_cells (heap_alloc_new w3 _)) (by simp [Value.oneCell']) (by unfold maxLen; omega) (by omega) (by simp; omega) ?_; intro A4 c4 w4 hown4 hg4; have Hp4 := Lib.hid (Hp3.out.told (x := ⟨(k : Int), f, t, Ab, nb, cb, bs⟩) ⟨by show (0 : Int) ≤ (k : Int); omega, by show (k : Int) < 3; omega, Hbl.out, by show nb ≤ 20; omega, Hbs.out⟩ hal.out hg4 hown4); have c1z : w4.cell? ⟨wr.heap.size, 1, none⟩ = some (.int .i64 (k : Int)) := (hg4.cell ((hal.out.cell (block_lt_of_cell d1')).trans d1') (fun e => item_ne Hp3.out.x.2 Hh3.out e.symm)); clear hg4 hown4))
                go_meet
                exact ⟨_, A4, m + 1, c4, by omega, rfl, Hp4.out, c1z⟩
              · have hro : ¬ (cn : Int) < (R : Int) := by omega
                go_wp2_with (go_at_call 8; refine Hcnt.out.mono ?_; rintro e w3 ⟨rfl, rfl⟩)
                refine (Post_full g R c q f t k Ab nb cb bs w2 HqB.out hk Hbl.out (by omega) (Hbs.out.below Hp2.out.b) (by rw [Hqn.out]; omega)).mono ?_
                rintro e w3 ⟨rfl, hb3⟩
                have Hp3 := Lib.hid (Hp2.out.below hb3)
                have c1z : w3.cell? ⟨wr.heap.size, 1, none⟩ = some (.int .i64 (k : Int)) := by rw [hb3.cell (block_lt_of_cell c1')]; exact c1'
                clear hb3
                go_wp2
                go_meet
                exact ⟨X, A', m, cp, by omega, rfl, Hp3.out, c1z⟩
            · have hnot : (0 ≤ cl ∧ cl ≤ 2) → False := fun e => hcl ⟨e.1, by omega⟩
              by_cases hneg : 0 ≤ cl
              · have hbig : ¬ cl ≤ 2 := fun e => hnot ⟨hneg, e⟩
                clear hnot hcl
                go_wp2_with fail
                refine (Post_no g f t cl Ab nb cb w2 (by omega)).mono ?_
                rintro e w3 ⟨rfl, hb3⟩
                have Hp3 := Lib.hid (Hp2.out.below hb3)
                have c1z : w3.cell? ⟨wr.heap.size, 1, none⟩ = some (.int .i64 cl) := by rw [hb3.cell (block_lt_of_cell c1')]; exact c1'
                clear hb3
                go_wp2
                go_meet
                exact ⟨X, A', m, cp, by omega, rfl, Hp3.out, c1z⟩
              · clear hnot hcl
                go_wp2_with fail
                refine (Post_no g f t cl Ab nb cb w2 (by omega)).mono ?_
                rintro e w3 ⟨rfl, hb3⟩
                have Hp3 := Lib.hid (Hp2.out.below hb3)
                have c1z : w3.cell? ⟨wr.heap.size, 1, none⟩ = some (.int .i64 cl) := by rw [hb3.cell (block_lt_of_cell c1')]; exact c1'
                clear hb3
                go_wp2
                go_meet
                exact ⟨X, A', m, cp, by omega, rfl, Hp3.out, c1z⟩
          · by_cases hd1 : d = 1
            · subst hd1
              clear hd0 c4' hld
              obtain ⟨q, hqB, hqL⟩ := Hp2.out.q
              have HqB := Lib.hid hqB; have HqL := Lib.hid hqL
              have hxl := Hp2.out.len
              have hmn : m ≤ 100000 := by omega
              clear hqB hqL
              go_wp2_with fail
              refine (First_any _ A' m cp X w2 Hp2.out.x hmn).mono ?_
              rintro e w3 ⟨v, rfl, hf, hb3⟩
              have Hp3 := Lib.hid (Hp2.out.below hb3)
              have HqB3 := Lib.hid (HqB.out.below hb3)
              have HqL3 := Lib.hid (show ∀ k, k < 3 → LetsAt w3 (q k) (ofCls (k : Int) X) from fun k hk => (HqL.out k hk).turned (p := fun _ => False) (.of_below hb3) (fun _ e => e.elim))
              have Hh3 := Lib.hid ((hb3.block wr.heap.size (Array.getElem?_eq_some_iff.1 Hh2.out).1).trans Hh2.out)
              clear hb3
              rcases hf with ⟨hX, rfl⟩ | ⟨a, rfl, ha, hf⟩
              ·
                have HX := Lib.hid hX
                clear hX hxl
                go_wp2_with fail
                refine (Next_none g R c q w3 HqB3.out (fun k hk => by have := HqL3.out k hk; rw [HX.out] at this; exact this.empty)).mono ?_
                rintro e w4 ⟨rfl, hb4⟩
                have Hp4 := Lib.hid (Hp3.out.below hb4)
                have Hh4 := Lib.hid ((hb4.block wr.heap.size (Array.getElem?_eq_some_iff.1 Hh3.out).1).trans Hh3.out)
                obtain ⟨w5, hw5, hx5, hh5⟩ : ∃ w5, w4.alloc (.cells #[.int .i64 0, .int .i64 0, .slice none 0 0] 29) = w5 ∧ Below w4.heap.size w4 w5 ∧ w5.heap[w4.heap.size]? = some (.cells #[.int .i64 0, .int .i64 0, .slice none 0 0] 29 (0, 0)) :=
                  ⟨_, rfl, (Below.refl _ _).alloc (Nat.le_refl _) _, heap_alloc_new _ _⟩
                have Hw5 := Lib.hid hw5
                have Hp5 := Lib.hid (Hp4.out.below hx5)
                have Hh5 := Lib.hid ((hx5.block wr.heap.size (Array.getElem?_eq_some_iff.1 Hh4.out).1).trans Hh4.out)
                have Hld := Lib.hid (show ∀ w', Below w5.heap.size w5 w' → (fun w' => (ldLet (.pointer (some ⟨w4.heap.size, 0, none⟩))).run Try.prog w' = .ok (.agg #[.int .i64 0, .int .i64 0, .slice none 0 0]) w' ∧ True ∧ True) w' from fun w' hb => ⟨ldLet_run ((hb.block w4.heap.size (Array.getElem?_eq_some_iff.1 hh5).1).trans hh5), trivial, trivial⟩)
                clear hb4 hw5 hx5 hh5
                unfold zeroL
                go_upto_region 25 with (refine wpList_store_row rfl 29 (.tmp 11) (.tmp 92) rfl w4.heap.size #[.int .i64 0, .int .i64 0, .slice none 0 0] rfl rfl 29 _ (heap_alloc_new _ _) letter_size rfl (by simp [Value.oneCell']) ?_; rw [World.setRow_alloc_new, Hw5.out])
                refine wp_region_held_drew (S := (fun w' => (ldLet (.pointer (some ⟨w4.heap.size, 0, none⟩))).run Try.prog w' = .ok (.agg #[.int .i64 0, .int .i64 0, .slice none 0 0]) w' ∧ True ∧ True)) (by kernel_rfl) ?_ (fun hHeld => ?_)
                · exact Hld.out _ (Below.refl _ _).drew
                refine wpAnyH_take (i := 0) (v := ?v1) rfl (by kernel_rfl) (by kernel_rfl) (by kernel_rfl) (fun _ _ _ h => h) (Or.inl ⟨by rfl, ?hy1⟩) (by assumption) ?rest1
                case hy1 => (intro w' hS; obtain ⟨s1, s2, s3⟩ := hS; (try simp only [List.getElem_toArray, List.getElem_cons_zero]); go_simp; try with_reducible rfl)
                try simp only [Act.put, List.setIfInBounds_toArray, List.set_cons_zero, List.set_cons_succ, List.getElem_toArray, List.getElem_cons_zero]
                refine wpAnyH_take (i := 1) (v := ?v2) rfl (by kernel_rfl) (by kernel_rfl) (by kernel_rfl) (fun _ _ _ h => h) (Or.inl ⟨by rfl, ?hy2⟩) (by assumption) ?rest2
                case hy2 => (intro w' hS; obtain ⟨s1, s2, s3⟩ := hS; (try simp only [List.getElem_toArray, List.getElem_cons_succ, List.getElem_cons_zero]); go_simp; try with_reducible rfl)
                try simp only [Act.put, List.setIfInBounds_toArray, List.set_cons_zero, List.set_cons_succ, List.getElem_toArray, List.getElem_cons_succ, List.getElem_cons_zero]
                refine wpAnyH_take (i := 2) (v := ?v3) rfl (by kernel_rfl) (by kernel_rfl) (by kernel_rfl) (fun _ _ _ h => h) (Or.inl ⟨by rfl, ?hy3⟩) (by assumption) ?rest3
                case hy3 => (intro w' hS; obtain ⟨s1, s2, s3⟩ := hS; (try simp only [List.getElem_toArray, List.getElem_cons_succ, List.getElem_cons_zero]); go_simp; try with_reducible rfl)
                try simp only [Act.put, List.setIfInBounds_toArray, List.set_cons_zero, List.set_cons_succ, List.getElem_toArray, List.getElem_cons_succ, List.getElem_cons_zero]
                refine wpAnyH_take (i := 3) (v := ?v4) rfl (by kernel_rfl) (by kernel_rfl) (by kernel_rfl) (fun _ _ _ h => h) (Or.inl ⟨by rfl, ?hy4⟩) (by assumption) ?rest4
                case hy4 => (intro w' hS; obtain ⟨s1, s2, s3⟩ := hS; (try simp only [List.getElem_toArray, List.getElem_cons_succ, List.getElem_cons_zero]); go_simp; try with_reducible rfl)
                try simp only [Act.put, List.setIfInBounds_toArray, List.set_cons_zero, List.set_cons_succ, List.getElem_toArray, List.getElem_cons_succ, List.getElem_cons_zero]
                refine wpAnyH_take (i := 4) (v := ?v5) rfl (by kernel_rfl) (by kernel_rfl) (by kernel_rfl) (fun _ _ _ h => h) (Or.inl ⟨by rfl, ?hy5⟩) (by assumption) ?rest5
                case hy5 => (intro w' hS; obtain ⟨s1, s2, s3⟩ := hS; (try simp only [List.getElem_toArray, List.getElem_cons_succ, List.getElem_cons_zero]); go_simp; try with_reducible rfl)
                try simp only [Act.put, List.setIfInBounds_toArray, List.set_cons_zero, List.set_cons_succ, List.getElem_toArray, List.getElem_cons_succ, List.getElem_cons_zero]
                refine wpAnyH_take (i := 5) (v := ?v6) rfl (by kernel_rfl) (by kernel_rfl) (by kernel_rfl) (fun _ _ _ h => h) (Or.inl ⟨by rfl, ?hy6⟩) (by assumption) ?rest6
                case hy6 => (intro w' hS; obtain ⟨s1, s2, s3⟩ := hS; (try simp only [List.getElem_toArray, List.getElem_cons_succ, List.getElem_cons_zero]); go_simp; try with_reducible rfl)
                try simp only [Act.put, List.setIfInBounds_toArray, List.set_cons_zero, List.set_cons_succ, List.getElem_toArray, List.getElem_cons_succ, List.getElem_cons_zero]
                refine wpAnyH_take (i := 6) (v := ?v7) rfl (by kernel_rfl) (by kernel_rfl) (by kernel_rfl) (fun _ _ _ h => h) (Or.inl ⟨by rfl, ?hy7⟩) (by assumption) ?rest7
                case hy7 => (intro w' hS; obtain ⟨s1, s2, s3⟩ := hS; (try simp only [List.getElem_toArray, List.getElem_cons_succ, List.getElem_cons_zero]); go_simp; try with_reducible rfl)
                try simp only [Act.put, List.setIfInBounds_toArray, List.set_cons_zero, List.set_cons_succ, List.getElem_toArray, List.getElem_cons_succ, List.getElem_cons_zero]
                refine wpAnyH_take (i := 7) (v := undef) rfl (by kernel_rfl) (by kernel_rfl) (by kernel_rfl) (fun _ _ _ h => h) (Or.inr ⟨by rfl, rfl⟩) (by assumption) ?rest8
                try simp only [Act.put, List.setIfInBounds_toArray, List.set_cons_zero, List.set_cons_succ, List.getElem_toArray, List.getElem_cons_succ, List.getElem_cons_zero]
                refine wpAnyH_take (i := 8) (v := undef) rfl (by kernel_rfl) (by kernel_rfl) (by kernel_rfl) (fun _ _ _ h => h) (Or.inr ⟨by rfl, rfl⟩) (by assumption) ?rest9
                try simp only [Act.put, List.setIfInBounds_toArray, List.set_cons_zero, List.set_cons_succ, List.getElem_toArray, List.getElem_cons_succ, List.getElem_cons_zero]
                refine wpAnyH_take (i := 9) (v := undef) rfl (by kernel_rfl) (by kernel_rfl) (by kernel_rfl) (fun _ _ _ h => h) (Or.inr ⟨by rfl, rfl⟩) (by assumption) ?rest10
                try simp only [Act.put, List.setIfInBounds_toArray, List.set_cons_zero, List.set_cons_succ, List.getElem_toArray, List.getElem_cons_succ, List.getElem_cons_zero]
                refine wpAnyH_take (i := 10) (v := undef) rfl (by kernel_rfl) (by kernel_rfl) (by kernel_rfl) (fun _ _ _ h => h) (Or.inr ⟨by rfl, rfl⟩) (by assumption) ?rest11
                try simp only [Act.put, List.setIfInBounds_toArray, List.set_cons_zero, List.set_cons_succ, List.getElem_toArray, List.getElem_cons_succ, List.getElem_cons_zero]
                refine wpAnyH_take (i := 11) (v := undef) rfl (by kernel_rfl) (by kernel_rfl) (by kernel_rfl) (fun _ _ _ h => h) (Or.inr ⟨by rfl, rfl⟩) (by assumption) ?rest12
                try simp only [Act.put, List.setIfInBounds_toArray, List.set_cons_zero, List.set_cons_succ, List.getElem_toArray, List.getElem_cons_succ, List.getElem_cons_zero]
                refine wpAnyH_take (i := 12) (v := undef) rfl (by kernel_rfl) (by kernel_rfl) (by kernel_rfl) (fun _ _ _ h => h) (Or.inr ⟨by rfl, rfl⟩) (by assumption) ?rest13
                try simp only [Act.put, List.setIfInBounds_toArray, List.set_cons_zero, List.set_cons_succ, List.getElem_toArray, List.getElem_cons_succ, List.getElem_cons_zero]
                refine wpAnyH_take (i := 13) (v := undef) rfl (by kernel_rfl) (by kernel_rfl) (by kernel_rfl) (fun _ _ _ h => h) (Or.inr ⟨by rfl, rfl⟩) (by assumption) ?rest14
                try simp only [Act.put, List.setIfInBounds_toArray, List.set_cons_zero, List.set_cons_succ, List.getElem_toArray, List.getElem_cons_succ, List.getElem_cons_zero]
                refine wpAnyH_take (i := 14) (v := undef) rfl (by kernel_rfl) (by kernel_rfl) (by kernel_rfl) (fun _ _ _ h => h) (Or.inr ⟨by rfl, rfl⟩) (by assumption) ?rest15
                try simp only [Act.put, List.setIfInBounds_toArray, List.set_cons_zero, List.set_cons_succ, List.getElem_toArray, List.getElem_cons_succ, List.getElem_cons_zero]
                refine wpAnyH_take (i := 15) (v := undef) rfl (by kernel_rfl) (by kernel_rfl) (by kernel_rfl) (fun _ _ _ h => h) (Or.inr ⟨by rfl, rfl⟩) (by assumption) ?rest16
                try simp only [Act.put, List.setIfInBounds_toArray, List.set_cons_zero, List.set_cons_succ, List.getElem_toArray, List.getElem_cons_succ, List.getElem_cons_zero]
                refine wpAnyH_take (i := 16) (v := undef) rfl (by kernel_rfl) (by kernel_rfl) (by kernel_rfl) (fun _ _ _ h => h) (Or.inr ⟨by rfl, rfl⟩) (by assumption) ?rest17
                try simp only [Act.put, List.setIfInBounds_toArray, List.set_cons_zero, List.set_cons_succ, List.getElem_toArray, List.getElem_cons_succ, List.getElem_cons_zero]
                refine wpAnyH_take (i := 17) (v := undef) rfl (by kernel_rfl) (by kernel_rfl) (by kernel_rfl) (fun _ _ _ h => h) (Or.inr ⟨by rfl, rfl⟩) (by assumption) ?rest18
                try simp only [Act.put, List.setIfInBounds_toArray, List.set_cons_zero, List.set_cons_succ, List.getElem_toArray, List.getElem_cons_succ, List.getElem_cons_zero]
                refine wpAnyH_take (i := 18) (v := undef) rfl (by kernel_rfl) (by kernel_rfl) (by kernel_rfl) (fun _ _ _ h => h) (Or.inr ⟨by rfl, rfl⟩) (by assumption) ?rest19
                try simp only [Act.put, List.setIfInBounds_toArray, List.set_cons_zero, List.set_cons_succ, List.getElem_toArray, List.getElem_cons_succ, List.getElem_cons_zero]
                refine wpAnyH_take (i := 19) (v := undef) rfl (by kernel_rfl) (by kernel_rfl) (by kernel_rfl) (fun _ _ _ h => h) (Or.inr ⟨by rfl, rfl⟩) (by assumption) ?rest20
                try simp only [Act.put, List.setIfInBounds_toArray, List.set_cons_zero, List.set_cons_succ, List.getElem_toArray, List.getElem_cons_succ, List.getElem_cons_zero]
                refine wpAnyH_take (i := 20) (v := undef) rfl (by kernel_rfl) (by kernel_rfl) (by kernel_rfl) (fun _ _ _ h => h) (Or.inr ⟨by rfl, rfl⟩) (by assumption) ?rest21
                try simp only [Act.put, List.setIfInBounds_toArray, List.set_cons_zero, List.set_cons_succ, List.getElem_toArray, List.getElem_cons_succ, List.getElem_cons_zero]
                refine wpAnyH_take (i := 21) (v := undef) rfl (by kernel_rfl) (by kernel_rfl) (by kernel_rfl) (fun _ _ _ h => h) (Or.inr ⟨by rfl, rfl⟩) (by assumption) ?rest22
                try simp only [Act.put, List.setIfInBounds_toArray, List.set_cons_zero, List.set_cons_succ, List.getElem_toArray, List.getElem_cons_succ, List.getElem_cons_zero]
                refine wpAnyH_take (i := 22) (v := undef) rfl (by kernel_rfl) (by kernel_rfl) (by kernel_rfl) (fun _ _ _ h => h) (Or.inr ⟨by rfl, rfl⟩) (by assumption) ?rest23
                try simp only [Act.put, List.setIfInBounds_toArray, List.set_cons_zero, List.set_cons_succ, List.getElem_toArray, List.getElem_cons_succ, List.getElem_cons_zero]
                refine wpAnyH_take (i := 23) (v := undef) rfl (by kernel_rfl) (by kernel_rfl) (by kernel_rfl) (fun _ _ _ h => h) (Or.inr ⟨by rfl, rfl⟩) (by assumption) ?rest24
                try simp only [Act.put, List.setIfInBounds_toArray, List.set_cons_zero, List.set_cons_succ, List.getElem_toArray, List.getElem_cons_succ, List.getElem_cons_zero]
                refine wpAnyH_take (i := 24) (v := ?v25) rfl (by kernel_rfl) (by kernel_rfl) (by kernel_rfl) (fun _ _ _ h => h) (Or.inl ⟨by rfl, ?hy25⟩) (by assumption) ?rest25
                case hy25 => (intro w' hS; obtain ⟨s1, s2, s3⟩ := hS; (try simp only [List.getElem_toArray, List.getElem_cons_succ, List.getElem_cons_zero]); go_simp; try with_reducible rfl)
                try simp only [Act.put, List.setIfInBounds_toArray, List.set_cons_zero, List.set_cons_succ, List.getElem_toArray, List.getElem_cons_succ, List.getElem_cons_zero]
                refine wpAnyH_take (i := 25) (v := ?v26) rfl (by kernel_rfl) (by kernel_rfl) (by kernel_rfl) (fun _ _ _ h => h) (Or.inl ⟨by rfl, ?hy26⟩) (by assumption) ?rest26
                case hy26 => (intro w' hS; obtain ⟨s1, s2, s3⟩ := hS; (try simp only [List.getElem_toArray, List.getElem_cons_succ, List.getElem_cons_zero]); go_simp; try with_reducible rfl)
                try simp only [Act.put, List.setIfInBounds_toArray, List.set_cons_zero, List.set_cons_succ, List.getElem_toArray, List.getElem_cons_succ, List.getElem_cons_zero]
                refine wpAnyH_take (i := 26) (v := ?v27) rfl (by kernel_rfl) (by kernel_rfl) (by kernel_rfl) (fun _ _ _ h => h) (Or.inl ⟨by rfl, ?hy27⟩) (by assumption) ?rest27
                case hy27 => (intro w' hS; obtain ⟨s1, s2, s3⟩ := hS; (try simp only [List.getElem_toArray, List.getElem_cons_succ, List.getElem_cons_zero]); go_simp; try with_reducible rfl)
                try simp only [Act.put, List.setIfInBounds_toArray, List.set_cons_zero, List.set_cons_succ, List.getElem_toArray, List.getElem_cons_succ, List.getElem_cons_zero]
                refine wpAnyH_take (i := 27) (v := ?v28) rfl (by kernel_rfl) (by kernel_rfl) (by kernel_rfl) (fun _ _ _ h => h) (Or.inl ⟨by rfl, ?hy28⟩) (by assumption) ?rest28
                case hy28 => (intro w' hS; obtain ⟨s1, s2, s3⟩ := hS; (try simp only [List.getElem_toArray, List.getElem_cons_succ, List.getElem_cons_zero]); go_simp; try with_reducible rfl)
                try simp only [Act.put, List.setIfInBounds_toArray, List.set_cons_zero, List.set_cons_succ, List.getElem_toArray, List.getElem_cons_succ, List.getElem_cons_zero]
                refine wpAnyH_take (i := 28) (v := ?v29) rfl (by kernel_rfl) (by kernel_rfl) (by kernel_rfl) (fun _ _ _ h => h) (Or.inl ⟨by rfl, ?hy29⟩) (by assumption) ?rest29
                case hy29 => (intro w' hS; obtain ⟨s1, s2, s3⟩ := hS; (try simp only [List.getElem_toArray, List.getElem_cons_succ, List.getElem_cons_zero]); go_simp; try with_reducible rfl)
                try simp only [Act.put, List.setIfInBounds_toArray, List.set_cons_zero, List.set_cons_succ, List.getElem_toArray, List.getElem_cons_succ, List.getElem_cons_zero]
                refine wpAnyH_take (i := 29) (v := ?v30) rfl (by kernel_rfl) (by kernel_rfl) (by kernel_rfl) (fun _ _ _ h => h) (Or.inl ⟨by rfl, ?hy30⟩) (by assumption) ?rest30
                case hy30 => (intro w' hS; obtain ⟨s1, s2, s3⟩ := hS; (try simp only [List.getElem_toArray, List.getElem_cons_succ, List.getElem_cons_zero]); go_simp; try with_reducible rfl)
                try simp only [Act.put, List.setIfInBounds_toArray, List.set_cons_zero, List.set_cons_succ, List.getElem_toArray, List.getElem_cons_succ, List.getElem_cons_zero]
                refine wpAnyH_take (i := 30) (v := ?v31) rfl (by kernel_rfl) (by kernel_rfl) (by kernel_rfl) (fun _ _ _ h => h) (Or.inl ⟨by rfl, ?hy31⟩) (by assumption) ?rest31
                case hy31 => (intro w' hS; obtain ⟨s1, s2, s3⟩ := hS; (try simp only [List.getElem_toArray, List.getElem_cons_succ, List.getElem_cons_zero]); go_simp; try with_reducible rfl)
                try simp only [Act.put, List.setIfInBounds_toArray, List.set_cons_zero, List.set_cons_succ, List.getElem_toArray, List.getElem_cons_succ, List.getElem_cons_zero]
                refine wpAnyH_take (i := 31) (v := ?v32) rfl (by kernel_rfl) (by kernel_rfl) (by kernel_rfl) (fun _ _ _ h => h) (Or.inl ⟨by rfl, ?hy32⟩) (by assumption) ?rest32
                case hy32 => (intro w' hS; obtain ⟨s1, s2, s3⟩ := hS; (try simp only [List.getElem_toArray, List.getElem_cons_succ, List.getElem_cons_zero]); go_simp; try with_reducible rfl)
                try simp only [Act.put, List.setIfInBounds_toArray, List.set_cons_zero, List.set_cons_succ, List.getElem_toArray, List.getElem_cons_succ, List.getElem_cons_zero]
                refine wpAnyH_take (i := 32) (v := ?v33) rfl (by kernel_rfl) (by kernel_rfl) (by kernel_rfl) (fun _ _ _ h => h) (Or.inl ⟨by rfl, ?hy33⟩) (by assumption) ?rest33
                case hy33 => (intro w' hS; obtain ⟨s1, s2, s3⟩ := hS; (try simp only [List.getElem_toArray, List.getElem_cons_succ, List.getElem_cons_zero]); go_simp; try with_reducible rfl)
                try simp only [Act.put, List.setIfInBounds_toArray, List.set_cons_zero, List.set_cons_succ, List.getElem_toArray, List.getElem_cons_succ, List.getElem_cons_zero]
                refine wpAnyH_take (i := 33) (v := ?v34) rfl (by kernel_rfl) (by kernel_rfl) (by kernel_rfl) (fun _ _ _ h => h) (Or.inl ⟨by rfl, ?hy34⟩) (by assumption) ?rest34
                case hy34 => (intro w' hS; obtain ⟨s1, s2, s3⟩ := hS; (try simp only [List.getElem_toArray, List.getElem_cons_succ, List.getElem_cons_zero]); go_simp; try with_reducible rfl)
                try simp only [Act.put, List.setIfInBounds_toArray, List.set_cons_zero, List.set_cons_succ, List.getElem_toArray, List.getElem_cons_succ, List.getElem_cons_zero]
                refine wpAnyH_take (i := 34) (v := ?v35) rfl (by kernel_rfl) (by kernel_rfl) (by kernel_rfl) (fun _ _ _ h => h) (Or.inl ⟨by rfl, ?hy35⟩) (by assumption) ?rest35
                case hy35 => (intro w' hS; obtain ⟨s1, s2, s3⟩ := hS; (try simp only [List.getElem_toArray, List.getElem_cons_succ, List.getElem_cons_zero]); go_simp; try with_reducible rfl)
                try simp only [Act.put, List.setIfInBounds_toArray, List.set_cons_zero, List.set_cons_succ, List.getElem_toArray, List.getElem_cons_succ, List.getElem_cons_zero]
                refine wpAnyH_ready (rs := [35]) (by kernel_rfl) (by simp) ?_
                refine AllReadyH.cons rfl (fun K hK => ?_) AllReadyH.nil
                (try simp only [List.getElem_toArray, List.getElem_cons_succ, List.getElem_cons_zero])
                go_simp
                refine (LSame_yes 0 0 none none 0 0 0 [] w5.drew rfl (by omega) (Seen.nil _ _) (Seen.nil _ _)).mono ?_
                rintro e w6 ⟨rfl, hb6⟩
                have Hhb6 := Lib.hid hb6
                clear hb6
                refine hK.out _ _ ?_ (fun hHeld => ?_)
                · exact Hld.out _ ((Below.refl w5.heap.size w5).drew.trans Hhb6.out)
                clear hK K
                try simp only [Act.put, List.setIfInBounds_toArray, List.set_cons_zero, List.set_cons_succ, List.getElem_toArray, List.getElem_cons_succ, List.getElem_cons_zero]
                refine wpAnyH_take (i := 36) (v := ?v36) rfl (by kernel_rfl) (by kernel_rfl) (by kernel_rfl) (fun _ _ _ h => h) (Or.inl ⟨by rfl, ?hy36⟩) (by assumption) ?rest36
                case hy36 => (intro w' hS; obtain ⟨s1, s2, s3⟩ := hS; (try simp only [List.getElem_toArray, List.getElem_cons_succ, List.getElem_cons_zero]); go_simp; try with_reducible rfl)
                try simp only [Act.put, List.setIfInBounds_toArray, List.set_cons_zero, List.set_cons_succ, List.getElem_toArray, List.getElem_cons_succ, List.getElem_cons_zero]
                refine wpAnyH_take (i := 37) (v := ?v37) rfl (by kernel_rfl) (by kernel_rfl) (by kernel_rfl) (fun _ _ _ h => h) (Or.inl ⟨by rfl, ?hy37⟩) (by assumption) ?rest37
                case hy37 => (intro w' hS; obtain ⟨s1, s2, s3⟩ := hS; (try simp only [List.getElem_toArray, List.getElem_cons_succ, List.getElem_cons_zero]); go_simp; try with_reducible rfl)
                try simp only [Act.put, List.setIfInBounds_toArray, List.set_cons_zero, List.set_cons_succ, List.getElem_toArray, List.getElem_cons_succ, List.getElem_cons_zero]
                refine wpAnyH_take (i := 38) (v := ?v38) rfl (by kernel_rfl) (by kernel_rfl) (by kernel_rfl) (fun _ _ _ h => h) (Or.inl ⟨by rfl, ?hy38⟩) (by assumption) ?rest38
                case hy38 => (intro w' hS; obtain ⟨s1, s2, s3⟩ := hS; (try simp only [List.getElem_toArray, List.getElem_cons_succ, List.getElem_cons_zero]); go_simp; try with_reducible rfl)
                try simp only [Act.put, List.setIfInBounds_toArray, List.set_cons_zero, List.set_cons_succ, List.getElem_toArray, List.getElem_cons_succ, List.getElem_cons_zero]
                refine wpAnyH_take (i := 39) (v := ?v39) rfl (by kernel_rfl) (by kernel_rfl) (by kernel_rfl) (fun _ _ _ h => h) (Or.inl ⟨by rfl, ?hy39⟩) (by assumption) ?rest39
                case hy39 => (intro w' hS; obtain ⟨s1, s2, s3⟩ := hS; (try simp only [List.getElem_toArray, List.getElem_cons_succ, List.getElem_cons_zero]); go_simp; try with_reducible rfl)
                try simp only [Act.put, List.setIfInBounds_toArray, List.set_cons_zero, List.set_cons_succ, List.getElem_toArray, List.getElem_cons_succ, List.getElem_cons_zero]
                refine wpAnyH_done (by kernel_rfl) ?_ _
                have Hb6 := Lib.hid ((Below.refl w5.heap.size w5).drew.trans Hhb6.out)
                clear hHeld
                go_wp2
                go_meet
                exact ⟨X, A', m, cp, by omega, rfl, Hp5.out.below Hb6.out, row_cell ((Hb6.out.block wr.heap.size (Array.getElem?_eq_some_iff.1 Hh5.out).1).trans Hh5.out) 1⟩
              ·
                rw [hxl] at ha
                obtain ⟨p, hp0⟩ : ∃ p, X[a]? = some p := ⟨X[a]'(by omega), List.getElem?_eq_getElem (by omega)⟩
                obtain ⟨o1, o2, o3⟩ := first_out hf hp0
                have hok := Hp2.out.ok p (List.mem_of_getElem? hp0)
                obtain ⟨gx, p', hAx, hp1, _, x0, x1, x2, x3⟩ := Hp3.out.x.get ha
                rw [hp0] at hp1
                injection hp1 with hp1
                subst hp1
                subst hAx
                obtain ⟨pcl, pf, pt, pA, pn, pc, pbs⟩ := p
                obtain ⟨ok1, ok2, ok3, ok4, ok5⟩ := hok
                simp only at o1 o2 o3 ok1 ok2 ok3 ok4 ok5 x0 x1 x2 x3
                obtain ⟨mm, rfl⟩ : ∃ mm : Nat, pcl = (mm : Int) := ⟨pcl.toNat, by omega⟩
                have hm3 : mm < 3 := by omega
                have hL := HqL3.out mm hm3
                rw [o1] at hL
                obtain ⟨v0, rest, hq0, ⟨A3, c3, hv0, hown3⟩, hLr⟩ := hL.cons
                simp only at hv0 hown3
                rw [hv0] at hq0
                have Hq0 := Lib.hid hq0; have HLr := Lib.hid hLr; have Hown3 := Lib.hid hown3; have Ho2 := Lib.hid o2
                have Hf := Lib.hid hf; have Hp0 := Lib.hid hp0
                have Hpl := Lib.hid ok3; have Hpn := Lib.hid (show pn ≤ 10000 by omega); have Hps0 := Lib.hid ok5
                have Hx := Lib.hid (And.intro x0 (And.intro x1 (And.intro x2 x3)))
                have a0 : (0 : Int) ≤ (a : Int) := by omega
                have a1 : (a : Int) < (m : Int) := by omega
                have hm1 : m - 1 ≤ i := by omega
                clear hf hp0 o1 o2 o3 ok1 ok2 ok3 ok4 ok5 x0 x1 x2 x3 hL hq0 hv0 hown3 hLr hxl
                go_wp2_with fail
                refine (Next_some g R c q mm pf pt A3 pn c3 rest w3 HqB3.out hm3 (fun k hk => by have := HqL3.out k (by omega); rw [Ho2.out (k : Int) (by omega)] at this; exact this.empty) Hq0.out).mono ?_
                rintro e w4 ⟨rfl, hb4, ht4⟩
                have hck : ∀ j, j = c mm → TurnC w3 j := fun j e => by rw [e]; exact HqB3.out.turnC hm3
                have hne : ∀ {j : Nat} {cs : Array Value} {T : TypeId} {fr : Nat × Nat}, w3.heap[j]? = some (.cells cs T fr) → ¬ j = c mm := fun h e => by
                  obtain ⟨_, _, _, _, _, _, e2⟩ := HqB3.out.turnC hm3
                  rw [← e, h] at e2; cases e2
                have Hp4 := Lib.hid (Hp3.out.boxed ht4 hck (fun j e => ⟨mm, hm3, e⟩) (BoxAt.took HqB3.out HqL3.out hm3 rfl Hf.out Hp0.out HLr.out hb4 ht4))
                have hh4 := ht4.heap Hh3.out (hne Hh3.out)
                have ho4 := own_turnedM ht4 Hown3.out (fun k hk e => by obtain ⟨cs, hb⟩ := row_blockM Hown3.out hk; exact hne hb e)
                obtain ⟨w5, hw5, hx5, hh5⟩ : ∃ w5, w4.alloc (.cells #[.int .i64 pf, .int .i64 pt, .slice A3 pn c3] 29) = w5 ∧ Below w4.heap.size w4 w5 ∧ w5.heap[w4.heap.size]? = some (.cells #[.int .i64 pf, .int .i64 pt, .slice A3 pn c3] 29 (0, 0)) :=
                  ⟨_, rfl, (Below.refl _ _).alloc (Nat.le_refl _) _, heap_alloc_new _ _⟩
                have Hw5 := Lib.hid hw5
                have Hp5 := Lib.hid (Hp4.out.below hx5)
                have Hh5 := Lib.hid ((hx5.block wr.heap.size (Array.getElem?_eq_some_iff.1 hh4).1).trans hh4)
                have Hs3 := Lib.hid (Seen.of_own (own_belowM ho4 hx5))
                have Hps := Lib.hid (Hps0.out.below Hp5.out.b)
                have Hld := Lib.hid (show ∀ w', Below w5.heap.size w5 w' → (fun w' => w'.cell? ⟨gx, a * 4, none⟩ = some (.int .i64 (mm : Int)) ∧ (ldLet (.pointer (some ⟨w4.heap.size, 0, none⟩))).run Try.prog w' = .ok (.agg #[.int .i64 pf, .int .i64 pt, .slice A3 pn c3]) w' ∧ (ldLet (.pointer (some ⟨gx, a * 4 + 1, none⟩))).run Try.prog w' = .ok (.agg #[.int .i64 pf, .int .i64 pt, .slice pA pn pc]) w') w' from fun w' hb => by
                  obtain ⟨gx', p', hAx, hp1, _, x0, x1, x2, x3⟩ := (Hp5.out.below hb).x.get ha
                  rw [Hp0.out] at hp1
                  injection hp1 with hp1
                  subst hp1
                  injection hAx with hAx
                  injection hAx with hAx
                  subst hAx
                  exact ⟨x0, ldLet_run ((hb.block w4.heap.size (Array.getElem?_eq_some_iff.1 hh5).1).trans hh5), ldLet_at x1 x2 x3⟩)
                clear hb4 ht4 hck hne hh4 ho4 hw5 hx5 hh5
                rw [letV_eq]
                go_upto_region 25 with (refine wpList_store_row rfl 29 (.tmp 11) (.tmp 92) rfl w4.heap.size #[.int .i64 pf, .int .i64 pt, .slice A3 pn c3] rfl rfl 29 _ (heap_alloc_new _ _) letter_size rfl (by simp [Value.oneCell']) ?_; rw [World.setRow_alloc_new, Hw5.out])
                refine wp_region_held_drew (S := (fun w' => w'.cell? ⟨gx, a * 4, none⟩ = some (.int .i64 (mm : Int)) ∧ (ldLet (.pointer (some ⟨w4.heap.size, 0, none⟩))).run Try.prog w' = .ok (.agg #[.int .i64 pf, .int .i64 pt, .slice A3 pn c3]) w' ∧ (ldLet (.pointer (some ⟨gx, a * 4 + 1, none⟩))).run Try.prog w' = .ok (.agg #[.int .i64 pf, .int .i64 pt, .slice pA pn pc]) w')) (by kernel_rfl) ?_ (fun hHeld => ?_)
                · exact Hld.out _ (Below.refl _ _).drew
                refine wpAnyH_take (i := 0) (v := ?v40) rfl (by kernel_rfl) (by kernel_rfl) (by kernel_rfl) (fun _ _ _ h => h) (Or.inl ⟨by rfl, ?hy40⟩) (by assumption) ?rest40
                case hy40 => (intro w' hS; obtain ⟨s1, s2, s3⟩ := hS; (try simp only [List.getElem_toArray, List.getElem_cons_zero]); go_simp; try with_reducible rfl)
                try simp only [Act.put, List.setIfInBounds_toArray, List.set_cons_zero, List.set_cons_succ, List.getElem_toArray, List.getElem_cons_zero]
                refine wpAnyH_take (i := 1) (v := ?v41) rfl (by kernel_rfl) (by kernel_rfl) (by kernel_rfl) (fun _ _ _ h => h) (Or.inl ⟨by rfl, ?hy41⟩) (by assumption) ?rest41
                case hy41 => (intro w' hS; obtain ⟨s1, s2, s3⟩ := hS; (try simp only [List.getElem_toArray, List.getElem_cons_succ, List.getElem_cons_zero]); go_simp; try with_reducible rfl)
                try simp only [Act.put, List.setIfInBounds_toArray, List.set_cons_zero, List.set_cons_succ, List.getElem_toArray, List.getElem_cons_succ, List.getElem_cons_zero]
                refine wpAnyH_take (i := 2) (v := ?v42) rfl (by kernel_rfl) (by kernel_rfl) (by kernel_rfl) (fun _ _ _ h => h) (Or.inl ⟨by rfl, ?hy42⟩) (by assumption) ?rest42
                case hy42 => (intro w' hS; obtain ⟨s1, s2, s3⟩ := hS; (try simp only [List.getElem_toArray, List.getElem_cons_succ, List.getElem_cons_zero]); go_simp; try with_reducible rfl)
                try simp only [Act.put, List.setIfInBounds_toArray, List.set_cons_zero, List.set_cons_succ, List.getElem_toArray, List.getElem_cons_succ, List.getElem_cons_zero]
                refine wpAnyH_take (i := 3) (v := ?v43) rfl (by kernel_rfl) (by kernel_rfl) (by kernel_rfl) (fun _ _ _ h => h) (Or.inl ⟨by rfl, ?hy43⟩) (by assumption) ?rest43
                case hy43 => (intro w' hS; obtain ⟨s1, s2, s3⟩ := hS; (try simp only [List.getElem_toArray, List.getElem_cons_succ, List.getElem_cons_zero]); go_simp; try with_reducible rfl)
                try simp only [Act.put, List.setIfInBounds_toArray, List.set_cons_zero, List.set_cons_succ, List.getElem_toArray, List.getElem_cons_succ, List.getElem_cons_zero]
                refine wpAnyH_take (i := 4) (v := ?v44) rfl (by kernel_rfl) (by kernel_rfl) (by kernel_rfl) (fun _ _ _ h => h) (Or.inl ⟨by rfl, ?hy44⟩) (by assumption) ?rest44
                case hy44 => (intro w' hS; obtain ⟨s1, s2, s3⟩ := hS; (try simp only [List.getElem_toArray, List.getElem_cons_succ, List.getElem_cons_zero]); go_simp; try with_reducible rfl)
                try simp only [Act.put, List.setIfInBounds_toArray, List.set_cons_zero, List.set_cons_succ, List.getElem_toArray, List.getElem_cons_succ, List.getElem_cons_zero]
                refine wpAnyH_take (i := 5) (v := ?v45) rfl (by kernel_rfl) (by kernel_rfl) (by kernel_rfl) (fun _ _ _ h => h) (Or.inl ⟨by rfl, ?hy45⟩) (by assumption) ?rest45
                case hy45 => (intro w' hS; obtain ⟨s1, s2, s3⟩ := hS; (try simp only [List.getElem_toArray, List.getElem_cons_succ, List.getElem_cons_zero]); go_simp; try with_reducible rfl)
                try simp only [Act.put, List.setIfInBounds_toArray, List.set_cons_zero, List.set_cons_succ, List.getElem_toArray, List.getElem_cons_succ, List.getElem_cons_zero]
                refine wpAnyH_take (i := 6) (v := ?v46) rfl (by kernel_rfl) (by kernel_rfl) (by kernel_rfl) (fun _ _ _ h => h) (Or.inl ⟨by rfl, ?hy46⟩) (by assumption) ?rest46
                case hy46 => (intro w' hS; obtain ⟨s1, s2, s3⟩ := hS; (try simp only [List.getElem_toArray, List.getElem_cons_succ, List.getElem_cons_zero]); go_simp; try with_reducible rfl)
                try simp only [Act.put, List.setIfInBounds_toArray, List.set_cons_zero, List.set_cons_succ, List.getElem_toArray, List.getElem_cons_succ, List.getElem_cons_zero]
                refine wpAnyH_take (i := 7) (v := ?v47) rfl (by kernel_rfl) (by kernel_rfl) (by kernel_rfl) (fun _ _ _ h => h) (Or.inl ⟨by rfl, ?hy47⟩) (by assumption) ?rest47
                case hy47 => (intro w' hS; obtain ⟨s1, s2, s3⟩ := hS; (try simp only [List.getElem_toArray, List.getElem_cons_succ, List.getElem_cons_zero]); go_simp; try with_reducible rfl)
                try simp only [Act.put, List.setIfInBounds_toArray, List.set_cons_zero, List.set_cons_succ, List.getElem_toArray, List.getElem_cons_succ, List.getElem_cons_zero]
                refine wpAnyH_take (i := 8) (v := ?v48) rfl (by kernel_rfl) (by kernel_rfl) (by kernel_rfl) (fun _ _ _ h => h) (Or.inl ⟨by rfl, ?hy48⟩) (by assumption) ?rest48
                case hy48 => (intro w' hS; obtain ⟨s1, s2, s3⟩ := hS; (try simp only [List.getElem_toArray, List.getElem_cons_succ, List.getElem_cons_zero]); go_simp; try with_reducible rfl)
                try simp only [Act.put, List.setIfInBounds_toArray, List.set_cons_zero, List.set_cons_succ, List.getElem_toArray, List.getElem_cons_succ, List.getElem_cons_zero]
                refine wpAnyH_take (i := 9) (v := ?v49) rfl (by kernel_rfl) (by kernel_rfl) (by kernel_rfl) (fun _ _ _ h => h) (Or.inl ⟨by rfl, ?hy49⟩) (by assumption) ?rest49
                case hy49 => (intro w' hS; obtain ⟨s1, s2, s3⟩ := hS; (try simp only [List.getElem_toArray, List.getElem_cons_succ, List.getElem_cons_zero]); go_simp; try with_reducible rfl)
                try simp only [Act.put, List.setIfInBounds_toArray, List.set_cons_zero, List.set_cons_succ, List.getElem_toArray, List.getElem_cons_succ, List.getElem_cons_zero]
                refine wpAnyH_take (i := 10) (v := ?v50) rfl (by kernel_rfl) (by kernel_rfl) (by kernel_rfl) (fun _ _ _ h => h) (Or.inl ⟨by rfl, ?hy50⟩) (by assumption) ?rest50
                case hy50 => (intro w' hS; obtain ⟨s1, s2, s3⟩ := hS; (try simp only [List.getElem_toArray, List.getElem_cons_succ, List.getElem_cons_zero]); go_simp; try with_reducible rfl)
                try simp only [Act.put, List.setIfInBounds_toArray, List.set_cons_zero, List.set_cons_succ, List.getElem_toArray, List.getElem_cons_succ, List.getElem_cons_zero]
                refine wpAnyH_take (i := 11) (v := ?v51) rfl (by kernel_rfl) (by kernel_rfl) (by kernel_rfl) (fun _ _ _ h => h) (Or.inl ⟨by rfl, ?hy51⟩) (by assumption) ?rest51
                case hy51 => (intro w' hS; obtain ⟨s1, s2, s3⟩ := hS; (try simp only [List.getElem_toArray, List.getElem_cons_succ, List.getElem_cons_zero]); go_simp; try with_reducible rfl)
                try simp only [Act.put, List.setIfInBounds_toArray, List.set_cons_zero, List.set_cons_succ, List.getElem_toArray, List.getElem_cons_succ, List.getElem_cons_zero]
                refine wpAnyH_take (i := 12) (v := ?v52) rfl (by kernel_rfl) (by kernel_rfl) (by kernel_rfl) (fun _ _ _ h => h) (Or.inl ⟨by rfl, ?hy52⟩) (by assumption) ?rest52
                case hy52 => (intro w' hS; obtain ⟨s1, s2, s3⟩ := hS; (try simp only [List.getElem_toArray, List.getElem_cons_succ, List.getElem_cons_zero]); go_simp; try with_reducible rfl)
                try simp only [Act.put, List.setIfInBounds_toArray, List.set_cons_zero, List.set_cons_succ, List.getElem_toArray, List.getElem_cons_succ, List.getElem_cons_zero]
                refine wpAnyH_take (i := 13) (v := ?v53) rfl (by kernel_rfl) (by kernel_rfl) (by kernel_rfl) (fun _ _ _ h => h) (Or.inl ⟨by rfl, ?hy53⟩) (by assumption) ?rest53
                case hy53 => (intro w' hS; obtain ⟨s1, s2, s3⟩ := hS; (try simp only [List.getElem_toArray, List.getElem_cons_succ, List.getElem_cons_zero]); go_simp; try with_reducible rfl)
                try simp only [Act.put, List.setIfInBounds_toArray, List.set_cons_zero, List.set_cons_succ, List.getElem_toArray, List.getElem_cons_succ, List.getElem_cons_zero]
                refine wpAnyH_take (i := 14) (v := ?v54) rfl (by kernel_rfl) (by kernel_rfl) (by kernel_rfl) (fun _ _ _ h => h) (Or.inl ⟨by rfl, ?hy54⟩) (by assumption) ?rest54
                case hy54 => (intro w' hS; obtain ⟨s1, s2, s3⟩ := hS; (try simp only [List.getElem_toArray, List.getElem_cons_succ, List.getElem_cons_zero]); go_simp; try with_reducible rfl)
                try simp only [Act.put, List.setIfInBounds_toArray, List.set_cons_zero, List.set_cons_succ, List.getElem_toArray, List.getElem_cons_succ, List.getElem_cons_zero]
                refine wpAnyH_take (i := 15) (v := ?v55) rfl (by kernel_rfl) (by kernel_rfl) (by kernel_rfl) (fun _ _ _ h => h) (Or.inl ⟨by rfl, ?hy55⟩) (by assumption) ?rest55
                case hy55 => (intro w' hS; obtain ⟨s1, s2, s3⟩ := hS; (try simp only [List.getElem_toArray, List.getElem_cons_succ, List.getElem_cons_zero]); go_simp; try with_reducible rfl)
                try simp only [Act.put, List.setIfInBounds_toArray, List.set_cons_zero, List.set_cons_succ, List.getElem_toArray, List.getElem_cons_succ, List.getElem_cons_zero]
                refine wpAnyH_take (i := 16) (v := ?v56) rfl (by kernel_rfl) (by kernel_rfl) (by kernel_rfl) (fun _ _ _ h => h) (Or.inl ⟨by rfl, ?hy56⟩) (by assumption) ?rest56
                case hy56 => (intro w' hS; obtain ⟨s1, s2, s3⟩ := hS; (try simp only [List.getElem_toArray, List.getElem_cons_succ, List.getElem_cons_zero]); go_simp; try with_reducible rfl)
                try simp only [Act.put, List.setIfInBounds_toArray, List.set_cons_zero, List.set_cons_succ, List.getElem_toArray, List.getElem_cons_succ, List.getElem_cons_zero]
                refine wpAnyH_take (i := 17) (v := ?v57) rfl (by kernel_rfl) (by kernel_rfl) (by kernel_rfl) (fun _ _ _ h => h) (Or.inl ⟨by rfl, ?hy57⟩) (by assumption) ?rest57
                case hy57 => (intro w' hS; obtain ⟨s1, s2, s3⟩ := hS; (try simp only [List.getElem_toArray, List.getElem_cons_succ, List.getElem_cons_zero]); go_simp; try with_reducible rfl)
                try simp only [Act.put, List.setIfInBounds_toArray, List.set_cons_zero, List.set_cons_succ, List.getElem_toArray, List.getElem_cons_succ, List.getElem_cons_zero]
                refine wpAnyH_take (i := 18) (v := ?v58) rfl (by kernel_rfl) (by kernel_rfl) (by kernel_rfl) (fun _ _ _ h => h) (Or.inl ⟨by rfl, ?hy58⟩) (by assumption) ?rest58
                case hy58 => (intro w' hS; obtain ⟨s1, s2, s3⟩ := hS; (try simp only [List.getElem_toArray, List.getElem_cons_succ, List.getElem_cons_zero]); go_simp; try with_reducible rfl)
                try simp only [Act.put, List.setIfInBounds_toArray, List.set_cons_zero, List.set_cons_succ, List.getElem_toArray, List.getElem_cons_succ, List.getElem_cons_zero]
                refine wpAnyH_take (i := 19) (v := ?v59) rfl (by kernel_rfl) (by kernel_rfl) (by kernel_rfl) (fun _ _ _ h => h) (Or.inl ⟨by rfl, ?hy59⟩) (by assumption) ?rest59
                case hy59 => (intro w' hS; obtain ⟨s1, s2, s3⟩ := hS; (try simp only [List.getElem_toArray, List.getElem_cons_succ, List.getElem_cons_zero]); go_simp; try with_reducible rfl)
                try simp only [Act.put, List.setIfInBounds_toArray, List.set_cons_zero, List.set_cons_succ, List.getElem_toArray, List.getElem_cons_succ, List.getElem_cons_zero]
                refine wpAnyH_take (i := 20) (v := ?v60) rfl (by kernel_rfl) (by kernel_rfl) (by kernel_rfl) (fun _ _ _ h => h) (Or.inl ⟨by rfl, ?hy60⟩) (by assumption) ?rest60
                case hy60 => (intro w' hS; obtain ⟨s1, s2, s3⟩ := hS; (try simp only [List.getElem_toArray, List.getElem_cons_succ, List.getElem_cons_zero]); go_simp; try with_reducible rfl)
                try simp only [Act.put, List.setIfInBounds_toArray, List.set_cons_zero, List.set_cons_succ, List.getElem_toArray, List.getElem_cons_succ, List.getElem_cons_zero]
                refine wpAnyH_ready (rs := [21]) (by kernel_rfl) (by simp) ?_
                refine AllReadyH.cons rfl (fun K hK => ?_) AllReadyH.nil
                (try simp only [List.getElem_toArray, List.getElem_cons_succ, List.getElem_cons_zero])
                go_simp
                refine (LSame_yes pf pt A3 pA pn c3 pc pbs w5.drew Hpl.out Hpn.out (Hs3.out.below (Below.refl _ _).drew) (Hps.out.below (Below.refl _ _).drew)).mono ?_
                rintro e w6 ⟨rfl, hb6⟩
                have Hhb6 := Lib.hid hb6
                clear hb6
                refine hK.out _ _ ?_ (fun hHeld => ?_)
                · exact Hld.out _ ((Below.refl w5.heap.size w5).drew.trans Hhb6.out)
                clear hK K
                try simp only [Act.put, List.setIfInBounds_toArray, List.set_cons_zero, List.set_cons_succ, List.getElem_toArray, List.getElem_cons_succ, List.getElem_cons_zero]
                refine wpAnyH_take (i := 22) (v := ?v61) rfl (by kernel_rfl) (by kernel_rfl) (by kernel_rfl) (fun _ _ _ h => h) (Or.inl ⟨by rfl, ?hy61⟩) (by assumption) ?rest61
                case hy61 => (intro w' hS; obtain ⟨s1, s2, s3⟩ := hS; (try simp only [List.getElem_toArray, List.getElem_cons_succ, List.getElem_cons_zero]); go_simp; try with_reducible rfl)
                try simp only [Act.put, List.setIfInBounds_toArray, List.set_cons_zero, List.set_cons_succ, List.getElem_toArray, List.getElem_cons_succ, List.getElem_cons_zero]
                refine wpAnyH_take (i := 23) (v := ?v62) rfl (by kernel_rfl) (by kernel_rfl) (by kernel_rfl) (fun _ _ _ h => h) (Or.inl ⟨by rfl, ?hy62⟩) (by assumption) ?rest62
                case hy62 => (intro w' hS; obtain ⟨s1, s2, s3⟩ := hS; (try simp only [List.getElem_toArray, List.getElem_cons_succ, List.getElem_cons_zero]); go_simp; try with_reducible rfl)
                try simp only [Act.put, List.setIfInBounds_toArray, List.set_cons_zero, List.set_cons_succ, List.getElem_toArray, List.getElem_cons_succ, List.getElem_cons_zero]
                refine wpAnyH_take (i := 24) (v := ?v63) rfl (by kernel_rfl) (by kernel_rfl) (by kernel_rfl) (fun _ _ _ h => h) (Or.inl ⟨by rfl, ?hy63⟩) (by assumption) ?rest63
                case hy63 => (intro w' hS; obtain ⟨s1, s2, s3⟩ := hS; (try simp only [List.getElem_toArray, List.getElem_cons_succ, List.getElem_cons_zero]); go_simp; try with_reducible rfl)
                try simp only [Act.put, List.setIfInBounds_toArray, List.set_cons_zero, List.set_cons_succ, List.getElem_toArray, List.getElem_cons_succ, List.getElem_cons_zero]
                refine wpAnyH_take (i := 25) (v := ?v64) rfl (by kernel_rfl) (by kernel_rfl) (by kernel_rfl) (fun _ _ _ h => h) (Or.inl ⟨by rfl, ?hy64⟩) (by assumption) ?rest64
                case hy64 => (intro w' hS; obtain ⟨s1, s2, s3⟩ := hS; (try simp only [List.getElem_toArray, List.getElem_cons_succ, List.getElem_cons_zero]); go_simp; try with_reducible rfl)
                try simp only [Act.put, List.setIfInBounds_toArray, List.set_cons_zero, List.set_cons_succ, List.getElem_toArray, List.getElem_cons_succ, List.getElem_cons_zero]
                refine wpAnyH_take (i := 26) (v := ?v65) rfl (by kernel_rfl) (by kernel_rfl) (by kernel_rfl) (fun _ _ _ h => h) (Or.inl ⟨by rfl, ?hy65⟩) (by assumption) ?rest65
                case hy65 => (intro w' hS; obtain ⟨s1, s2, s3⟩ := hS; (try simp only [List.getElem_toArray, List.getElem_cons_succ, List.getElem_cons_zero]); go_simp; try with_reducible rfl)
                try simp only [Act.put, List.setIfInBounds_toArray, List.set_cons_zero, List.set_cons_succ, List.getElem_toArray, List.getElem_cons_succ, List.getElem_cons_zero]
                refine wpAnyH_take (i := 27) (v := ?v66) rfl (by kernel_rfl) (by kernel_rfl) (by kernel_rfl) (fun _ _ _ h => h) (Or.inl ⟨by rfl, ?hy66⟩) (by assumption) ?rest66
                case hy66 => (intro w' hS; obtain ⟨s1, s2, s3⟩ := hS; (try simp only [List.getElem_toArray, List.getElem_cons_succ, List.getElem_cons_zero]); go_simp; try with_reducible rfl)
                try simp only [Act.put, List.setIfInBounds_toArray, List.set_cons_zero, List.set_cons_succ, List.getElem_toArray, List.getElem_cons_succ, List.getElem_cons_zero]
                refine wpAnyH_take (i := 28) (v := ?v67) rfl (by kernel_rfl) (by kernel_rfl) (by kernel_rfl) (fun _ _ _ h => h) (Or.inl ⟨by rfl, ?hy67⟩) (by assumption) ?rest67
                case hy67 => (intro w' hS; obtain ⟨s1, s2, s3⟩ := hS; (try simp only [List.getElem_toArray, List.getElem_cons_succ, List.getElem_cons_zero]); go_simp; try with_reducible rfl)
                try simp only [Act.put, List.setIfInBounds_toArray, List.set_cons_zero, List.set_cons_succ, List.getElem_toArray, List.getElem_cons_succ, List.getElem_cons_zero]
                refine wpAnyH_take (i := 29) (v := ?v68) rfl (by kernel_rfl) (by kernel_rfl) (by kernel_rfl) (fun _ _ _ h => h) (Or.inl ⟨by rfl, ?hy68⟩) (by assumption) ?rest68
                case hy68 => (intro w' hS; obtain ⟨s1, s2, s3⟩ := hS; (try simp only [List.getElem_toArray, List.getElem_cons_succ, List.getElem_cons_zero]); go_simp; try with_reducible rfl)
                try simp only [Act.put, List.setIfInBounds_toArray, List.set_cons_zero, List.set_cons_succ, List.getElem_toArray, List.getElem_cons_succ, List.getElem_cons_zero]
                refine wpAnyH_take (i := 30) (v := undef) rfl (by kernel_rfl) (by kernel_rfl) (by kernel_rfl) (fun _ _ _ h => h) (Or.inr ⟨by rfl, rfl⟩) (by assumption) ?rest69
                try simp only [Act.put, List.setIfInBounds_toArray, List.set_cons_zero, List.set_cons_succ, List.getElem_toArray, List.getElem_cons_succ, List.getElem_cons_zero]
                refine wpAnyH_take (i := 31) (v := undef) rfl (by kernel_rfl) (by kernel_rfl) (by kernel_rfl) (fun _ _ _ h => h) (Or.inr ⟨by rfl, rfl⟩) (by assumption) ?rest70
                try simp only [Act.put, List.setIfInBounds_toArray, List.set_cons_zero, List.set_cons_succ, List.getElem_toArray, List.getElem_cons_succ, List.getElem_cons_zero]
                refine wpAnyH_take (i := 32) (v := undef) rfl (by kernel_rfl) (by kernel_rfl) (by kernel_rfl) (fun _ _ _ h => h) (Or.inr ⟨by rfl, rfl⟩) (by assumption) ?rest71
                try simp only [Act.put, List.setIfInBounds_toArray, List.set_cons_zero, List.set_cons_succ, List.getElem_toArray, List.getElem_cons_succ, List.getElem_cons_zero]
                refine wpAnyH_take (i := 33) (v := undef) rfl (by kernel_rfl) (by kernel_rfl) (by kernel_rfl) (fun _ _ _ h => h) (Or.inr ⟨by rfl, rfl⟩) (by assumption) ?rest72
                try simp only [Act.put, List.setIfInBounds_toArray, List.set_cons_zero, List.set_cons_succ, List.getElem_toArray, List.getElem_cons_succ, List.getElem_cons_zero]
                refine wpAnyH_take (i := 34) (v := undef) rfl (by kernel_rfl) (by kernel_rfl) (by kernel_rfl) (fun _ _ _ h => h) (Or.inr ⟨by rfl, rfl⟩) (by assumption) ?rest73
                try simp only [Act.put, List.setIfInBounds_toArray, List.set_cons_zero, List.set_cons_succ, List.getElem_toArray, List.getElem_cons_succ, List.getElem_cons_zero]
                refine wpAnyH_take (i := 35) (v := undef) rfl (by kernel_rfl) (by kernel_rfl) (by kernel_rfl) (fun _ _ _ h => h) (Or.inr ⟨by rfl, rfl⟩) (by assumption) ?rest74
                try simp only [Act.put, List.setIfInBounds_toArray, List.set_cons_zero, List.set_cons_succ, List.getElem_toArray, List.getElem_cons_succ, List.getElem_cons_zero]
                refine wpAnyH_take (i := 36) (v := undef) rfl (by kernel_rfl) (by kernel_rfl) (by kernel_rfl) (fun _ _ _ h => h) (Or.inr ⟨by rfl, rfl⟩) (by assumption) ?rest75
                try simp only [Act.put, List.setIfInBounds_toArray, List.set_cons_zero, List.set_cons_succ, List.getElem_toArray, List.getElem_cons_succ, List.getElem_cons_zero]
                refine wpAnyH_take (i := 37) (v := undef) rfl (by kernel_rfl) (by kernel_rfl) (by kernel_rfl) (fun _ _ _ h => h) (Or.inr ⟨by rfl, rfl⟩) (by assumption) ?rest76
                try simp only [Act.put, List.setIfInBounds_toArray, List.set_cons_zero, List.set_cons_succ, List.getElem_toArray, List.getElem_cons_succ, List.getElem_cons_zero]
                refine wpAnyH_take (i := 38) (v := ?v77) rfl (by kernel_rfl) (by kernel_rfl) (by kernel_rfl) (fun _ _ _ h => h) (Or.inl ⟨by rfl, ?hy77⟩) (by assumption) ?rest77
                case hy77 => (intro w' hS; obtain ⟨s1, s2, s3⟩ := hS; (try simp only [List.getElem_toArray, List.getElem_cons_succ, List.getElem_cons_zero]); go_simp; try with_reducible rfl)
                try simp only [Act.put, List.setIfInBounds_toArray, List.set_cons_zero, List.set_cons_succ, List.getElem_toArray, List.getElem_cons_succ, List.getElem_cons_zero]
                refine wpAnyH_take (i := 39) (v := ?v78) rfl (by kernel_rfl) (by kernel_rfl) (by kernel_rfl) (fun _ _ _ h => h) (Or.inl ⟨by rfl, ?hy78⟩) (by assumption) ?rest78
                case hy78 => (intro w' hS; obtain ⟨s1, s2, s3⟩ := hS; (try simp only [List.getElem_toArray, List.getElem_cons_succ, List.getElem_cons_zero]); go_simp; try with_reducible rfl)
                try simp only [Act.put, List.setIfInBounds_toArray, List.set_cons_zero, List.set_cons_succ, List.getElem_toArray, List.getElem_cons_succ, List.getElem_cons_zero]
                refine wpAnyH_done (by kernel_rfl) ?_ _
                have Hb6 := Lib.hid ((Below.refl w5.heap.size w5).drew.trans Hhb6.out)
                have Hp6 := Lib.hid (Hp5.out.below Hb6.out)
                have Hh6 := Lib.hid ((Hb6.out.block wr.heap.size (Array.getElem?_eq_some_iff.1 Hh5.out).1).trans Hh5.out)
                clear hHeld
                go_wp2_with fail
                refine (Out_any _ _ m cp X a w6 Hp6.out.x hmn ha).mono ?_
                rintro e w7 ⟨A7, c7, rfl, hx7, hb7⟩
                have Hp7 := Lib.hid (show PlayAt w g c R (outI X a) (outI X a) A7 (m - 1) c7 w7 from
                  ⟨(Hp6.out.below hb7).b, (Hp6.out.below hb7).q, ⟨hx7.1, own_baseM hx7.2 Hp6.out.b.size⟩, Hp6.out.ok.out, Hp6.out.g, Hp6.out.c⟩)
                have c1z : w7.cell? ⟨wr.heap.size, 1, none⟩ = some (.int .i64 cl) := row_cell ((hb7.block wr.heap.size (Array.getElem?_eq_some_iff.1 Hh6.out).1).trans Hh6.out) 1
                clear hx7 hb7
                go_wp2
                go_meet
                exact ⟨_, A7, m - 1, c7, by omega, rfl, Hp7.out, c1z⟩
            · by_cases hd2 : d = 2
              · subst hd2
                obtain ⟨q, hqB, hqL⟩ := Hp2.out.q
                have hlen := lens_all Hp2.out.ok hqL
                rw [Hp2.out.len] at hlen
                have hdr := Drain_any g R c q w2 hqB (by rw [hlen]; omega)
                rw [hlen] at hdr
                have Hdr := Lib.hid hdr; have HqB := Lib.hid hqB
                clear hqB hqL hlen hdr hd0 hd1
                go_wp2_with fail
                refine Hdr.out.mono ?_
                rintro e w3 ⟨rfl, hb3, ht3⟩
                have hck : ∀ j, Chans c j → TurnC w2 j := fun j ⟨k, hk, e⟩ => by rw [e]; exact HqB.out.turnC hk
                have hne : ¬ Chans c wr.heap.size := fun ⟨k, hk, e⟩ => by
                  obtain ⟨_, _, _, _, _, _, e2⟩ := HqB.out.turnC hk
                  rw [← e, Hh2.out] at e2; cases e2
                have Hp3 := Lib.hid (show PlayAt w g c R [] [] none 0 0 w3 from
                  ⟨(Hp2.out.boxed ht3 hck (fun j e => e) (BoxAt.drained hb3)).b, BoxAt.drained hb3, ItsAt.nil _ _, fun x hx => absurd hx List.not_mem_nil, Hp2.out.g, Hp2.out.c⟩)
                have c1z : w3.cell? ⟨wr.heap.size, 1, none⟩ = some (.int .i64 cl) := row_cell (ht3.heap Hh2.out hne) 1
                clear hb3 ht3 hck hne
                go_wp2
                go_meet
                exact ⟨[], none, 0, 0, by omega, rfl, Hp3.out, c1z⟩
              · go_wp2
                go_meet
                exact ⟨X, A', m, cp, by omega, rfl, Hp2.out, c1'⟩
        case rest =>
          obtain ⟨X2, A2, m2, cp2, hm2, rfl, hp2, c1z⟩ := hcut
          have Hz := Lib.hid hp2
          clear hp2 c0' c1' c4' hld
          go_upto_region 33 with fail
          go_quiet (first
            | (go_at_call 15; refine Calls.quiet_of_same ((Len_any (Hz.out.below (below_drewN (Below.refl _ _) _)) cl).mono (fun _ _ h => ⟨h.1, h.2.symm⟩)))
            | (go_at_call 8; refine Calls.quiet_of_same ((Count_any _ _ _ _ _ cl _ (Hz.out.below (below_drewN (Below.refl _ _) _)).x (by omega)).mono (fun _ _ h => ⟨h.1, h.2.symm⟩))))
          go_wp2
          go_roundw
          case rel => exact ⟨i + 1, X2, A2, m2, cp2, by omega, by omega, by go_num, rfl, Hz.out.below (below_drewN (Below.refl _ _) _)⟩
          case measure => simp [intOf]; omega
    · have i1 : ¬ (i : Int) < (n : Int) := by omega
      go_wp2_with (go_at_call 6; refine (awake_any wr).mono ?_; rintro e w3 ⟨rfl, hb3⟩; have Hb3 := Lib.hid (Hp.out.b.trans (hb3.mono Hp.out.b.size)); clear hb3)
      go_ret
      exact ⟨rfl, Hb3.out⟩

set_option maxRecDepth 100000 in
theorem walk (r : Int) (A : Option Addr) (n c0 : Nat) (l : List Act5) (w : World) (hr : (Lit.int .i64 r).wf = true) (hn : l.length = n) (hnc : n ≤ c0) (hcm : c0 ≤ maxLen) (hs : Acts5At w A l) :
    Calls Try.prog 3 #[.int .i64 r, .slice A n c0] w fun e w' => e = .returned (.bool true) ∧ Below w.heap.size w w' := by
  clear hr hnc hcm
  by_cases hl : 100 < n
  · have hli : (100 : Int) < (n : Int) := by omega
    clear hn hs
    go_enter Try.func3, Try.ntmps3
    go_wp2_with (go_at_call 6; refine (awake_any w).mono ?_; rintro e w1 ⟨rfl, hb⟩; have Hb := Lib.hid hb; clear hb)
    go_ret
    exact ⟨rfl, Hb.out⟩
  · have hli : ¬ (100 : Int) < (n : Int) := by omega
    by_cases hr20 : 20 < r
    · clear hn hs
      go_enter Try.func3, Try.ntmps3
      go_wp2_with (go_at_call 6; refine (awake_any w).mono ?_; rintro e w1 ⟨rfl, hb⟩; have Hb := Lib.hid hb; clear hb)
      go_ret
      exact ⟨rfl, Hb.out⟩
    · by_cases hr1 : 1 ≤ r
      · obtain ⟨R, rfl⟩ : ∃ R : Nat, r = (R : Int) := ⟨r.toNat, by omega⟩
        exact walk_in R A n c0 l w (by omega) (by omega) hn (by omega) hs
      · clear hn hs
        go_enter Try.func3, Try.ntmps3
        go_wp2_with fail
        refine (New_no r w (by omega)).mono ?_
        rintro e w1 ⟨rfl, rfl⟩
        go_wp2_with (go_at_call 6; refine (awake_any w).mono ?_; rintro e w1 ⟨rfl, hb⟩; have Hb := Lib.hid hb; clear hb)
        go_ret
        exact ⟨rfl, Hb.out⟩

/-! ### THE ROW -/
theorem own : ownKnob Try.prog.godebug = none := by kernel_rfl

set_option maxRecDepth 100000 in
theorem lifted (os : Os) (started : os.Started) (H : Type) (enc : TypeId × Value → H) :
    ReturnsInHanded {} Try.checked os 3 .any (Rows.mailPlaysSpec.pre6 enc Try.prog Try.f3 Rows.mailPlaysRow.domain false) (Rows.mailPlaysSpec.post enc Try.prog Try.f3 false true false false) := by
  refine returnsInHanded_of_change (C := Try.checked) own started (by kernel_rfl) Try.func3
    (ChangeSpec.witness6 (enc := enc) (C := Try.checked) false ⟨#[], #[.int .i64 0, .slice none 0 0], []⟩ 8 (by kernel_rfl) (by kernel_rfl) (by kernel_rfl) (by kernel_rfl)) ?_
  intro W base args ds gs before hval0 hW hcnd _
  have hval : ∀ (j : Nat) t v, Try.f3.params[j]? = some t → args[j]? = some v → Value.okWide Try.prog W .any base t v := hval0
  have hW' := hW
  obtain ⟨p, q, hA0, hV, rfl, hfz, hnd⟩ := hW
  have hA : DataW.TrodAll enc Try.prog W 0 (fun _ => true) true Try.f3.params.toList args.toList ds p := hA0
  rw [Try.params3] at hA hval
  obtain ⟨v0, vs0, d0, ds0, p0, q0, hargs, rfl, rfl, h0, r0⟩ := trodAll_cons hA
  obtain ⟨v1, vs1, d1, ds1, p1, q1, rfl, rfl, rfl, h1, r1⟩ := trodAll_cons r0
  obtain ⟨rfl, rfl, rfl⟩ := trodAll_nil r1
  obtain rfl : args = #[v0, v1] := by cases args; simp_all
  obtain ⟨rfl, rfl⟩ := trodVars_none hV
  obtain ⟨a0, rfl, rfl, rfl, w0⟩ := open_int Try.underlying3 (hval 0 3 v0 rfl rfl) h0
  obtain ⟨A1, n1, c1, fs1, rfl, hn1, hnc1, hcm1, hf1⟩ := open_acts5 Try.underlying22 Try.underlying31 rfl rfl rfl rfl rfl rfl Try.underlying3 Try.underlying3 Try.underlying29 rfl rfl rfl rfl rfl rfl Try.underlying3 Try.underlying3 Try.underlying27 Try.underlying5 (by kernel_rfl) (by kernel_rfl) (by kernel_rfl) (by kernel_rfl) (by kernel_rfl) (by kernel_rfl) (by kernel_rfl) (by kernel_rfl) (hval 1 22 v1 rfl rfl) h1
  refine (walk a0 A1 n1 c1 fs1 W w0 hn1 hnc1 hcm1 hf1).mono fun e W' ⟨he, hg⟩ => ?_
  subst he
  exact ⟨_, rfl, law_post hW' rfl (by kernel_rfl) (by kernel_rfl) (by kernel_rfl) Try.underlying4 rfl rfl rfl hg⟩

theorem over : Rows.mailPlaysRow.holds Try.pinned (OpenSpec.ofChange Rows.mailPlaysSpec) :=
  OpenClaim.holds_of_wide 3 Try.f3 rfl rfl rfl rfl rfl rfl rfl ⟨rfl, rfl, rfl, rfl, rfl⟩ rfl rfl rfl rfl rfl (by kernel_rfl) Try.func3 (by kernel_rfl)
    (of_decide_eq_true (by kernel_rfl)) (by unfold Func.isWrapper; first | (rw [if_pos (by decide +kernel)]; kernel_rfl) | (rw [if_neg (by decide +kernel)]; exact ⟨rfl, rfl⟩))
    (fun os started H enc _ => lifted os started H enc)

theorem proved : Rows.MailPlaysSaid :=
  over
#print axioms proved

end Go.Proofs.Ytbialoaphgmigaa.mailPlays
