/-
  Contract of dotterelref18's chunk, whole. Conditions: a state whose rows are its own, whose numbers are within bounds; a command about a chunk.
-/
import Derived.Test.YtmdmpliiiecmlaaGreatRfCh7
namespace Go.Proofs.YtmdmpliiiecmlaaGreat
open Go.ChangeShapes Go.WideShapes Go.ChangeAt Go.RowKit
set_option linter.unusedVariables false

/-- the numbers of a state's chunks are within bounds -/
structure KFit (r : RS) : Prop where
  ep : ∀ k ∈ r.cs, 0 ≤ k.ep ∧ k.ep ≤ 35184372088832
  ml : ∀ k ∈ r.cs, k.ms.length ≤ 1000000
  jl : ∀ k ∈ r.cs, k.js.length ≤ 1000000
theorem Rchunk_any (f : Rf) (c : Cmd) (B : Nat) (w0 w : World) (ho : RfOwn B w0 w f) (hf : KFit f.dat) (hc : CmdIn c) (hk : c.k = 6 ∨ c.k = 7 ∨ c.k = 8) :
    Calls Tryz.prog 49 #[f.val, cmdA c] w (DoRetR f (chunkR f.dat c).1 (chunkR f.dat c).2 w) := by
  have h := ho.ok
  unfold chunkR
  cases hx : chIx f.dat.cs c.a with
  | none => exact (Rchunk_none f c w h hx)
  | some q =>
    simp only
    have hq : ∃ k, f.K[q]? = some k := by
      have h1 := List.findIdx?_eq_some_iff_getElem.1 hx
      obtain ⟨h1, _⟩ := h1
      have e : f.dat.cs.length = f.K.length := List.length_map ..
      exact ⟨_, List.getElem?_eq_getElem (by omega)⟩
    obtain ⟨k, hq⟩ := hq
    have hqd : f.dat.cs[q]? = some k.dat := by show (f.K.map Ck.dat)[q]? = _; rw [List.getElem?_map, hq]; rfl
    have hm := List.mem_of_getElem? hqd
    by_cases hs : c.k = 7 ∧ (c.c < 0 ∨ 15 < c.c ∨ f.dat.pk c.c.toNat = 0)
    · rw [if_pos hs]
      exact (Rchunk_srv f c q w h hc hx hs.1 hs.2)
    · rw [if_neg hs, hqd]
      simp only
      have hep := hf.ep _ hm
      have hml := hf.ml _ hm
      have hjl := hf.jl _ hm
      have srv : c.k = 7 → ∃ n : Nat, n < 16 ∧ c.c = (n : Int) ∧ f.pk n ≠ 0 := fun h7 => by
        have h2 : ¬ (c.c < 0 ∨ 15 < c.c ∨ f.dat.pk c.c.toNat = 0) := fun e => hs ⟨h7, e⟩
        have h3 : ¬ c.c < 0 ∧ ¬ 15 < c.c ∧ ¬ f.dat.pk c.c.toNat = 0 := ⟨fun e => h2 (.inl e), fun e => h2 (.inr (.inl e)), fun e => h2 (.inr (.inr e))⟩
        exact ⟨c.c.toNat, by omega, by omega, h3.2.2⟩
      by_cases he : k.ep = c.b
      · have he' : ¬ k.dat.ep ≠ c.b := fun hn => hn he
        rw [if_neg he']
        unfold chunkF
        rcases hk with h6 | h7 | h8
        · rw [if_pos h6]
          cases hh : hasK c.c k.dat with
          | false =>
            rw [if_pos rfl]
            exact (Rchunk_6no f c q k w h hc hx hq h6 he hh)
          | true =>
            rw [if_neg (by simp)]
            by_cases hms : k.ms = [c.c]
            · rw [if_pos (show k.dat.ms = [c.c] from hms)]
              exact (Rchunk_6sole f c q k w h hc hx hq h6 he hh hms)
            · rw [if_neg (show ¬ k.dat.ms = [c.c] from hms)]
              by_cases hl : k.ms.length = 1
              · obtain ⟨x0, hx0⟩ := List.length_eq_one_iff.1 hl
                exact Rchunk_6one f c q k B w0 w ho hc hx hq h6 he hh hep hml hjl x0 hx0 (fun e => hms (by rw [hx0, e]))
              · exact Rchunk_6many f c q k B w0 w ho hc hx hq h6 he hh hep hml hjl hl
        · rw [if_neg (by omega), if_pos h7]
          obtain ⟨n, hn, hcn, hpk⟩ := srv h7
          cases hh : hasK c.c k.dat with
          | true =>
            rw [if_pos rfl]
            exact (Rchunk_7has f c q k w h hc hx hq n h7 hn hcn hpk he hh)
          | false =>
            rw [if_neg (by simp)]
            by_cases hfull : 4 ≤ k.ms.length + k.js.length
            · rw [if_pos (show 4 ≤ k.dat.ms.length + k.dat.js.length from hfull)]
              exact (Rchunk_7full f c q k w h hc hx hq n h7 hn hcn hpk he hh hfull hml hjl)
            · rw [if_neg (show ¬ 4 ≤ k.dat.ms.length + k.dat.js.length from hfull)]
              exact Rchunk_7yes f c q k B w0 w ho hc hx hq n h7 hn hcn hpk he hh hep (by omega)
        · rw [if_neg (by omega), if_neg (by omega)]
          by_cases hj : c.c ∈ k.js
          · rw [if_pos (show c.c ∈ k.dat.js from hj)]
            exact Rchunk_8yes f c q k B w0 w ho hc hx hq h8 he (decide_eq_true hj) hep hml hjl
          · rw [if_neg (show ¬ c.c ∈ k.dat.js from hj)]
            exact (Rchunk_8no f c q k w h hc hx hq h8 he (decide_eq_false hj))
      · rw [if_pos (show k.dat.ep ≠ c.b from he)]
        by_cases h7 : c.k = 7
        · obtain ⟨n, hn, hcn, hpk⟩ := srv h7
          exact (Rchunk_old7 f c q k w h hc hx hq n h7 hn hcn hpk he)
        · exact (Rchunk_old f c q k w h hc hx hq h7 he)
end Go.Proofs.YtmdmpliiiecmlaaGreat
