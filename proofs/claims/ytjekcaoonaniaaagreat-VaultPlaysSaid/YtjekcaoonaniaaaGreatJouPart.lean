/-
  A journal of a part of a device (RunP): the records that stood there, those that were added since, what the rest of the device shows; Open, Add, Flush on a device without a fuse. It speaks of no program but by the model's own definitions (Dv, Jn). No condition but what each lemma names.
-/
import Derived.Test.YtjekcaoonaniaaaGreatJouRun
import Derived.Test.YtjekcaoonaniaaaGreatJouOpenG
namespace Go.Proofs.YtjekcaoonaniaaaGreat
set_option linter.unusedVariables false

theorem stood_prefix {gen : Nat} : ∀ {k : Nat} {b : List UInt8} {ts : List (List UInt8)}, Stood gen k b ts → formsX 1 gen k ts <+: b
  | _, b, [], _ => List.nil_prefix
  | k, b, t :: r, h => by
    obtain ⟨c, hc⟩ := h.1.2
    obtain ⟨c2, hc2⟩ := stood_prefix h.2
    refine ⟨c2, ?_⟩
    simp only [formsX, List.append_assoc]
    rw [hc2, ← hc, List.drop_left' (form_length 1 gen k t)]
theorem stood_forms_ok {gen : Nat} : ∀ {k : Nat} {b : List UInt8} {ts : List (List UInt8)}, Stood gen k b ts → ∀ (i : Nat) t, ts[i]? = some t → formE gen ((k + i : Nat) : Int) t = 0
  | _, _, [], _, i, t, h => by simp at h
  | k, b, u :: r, hs, 0, t, h => by
    simp at h
    subst h
    simpa using hs.1.1
  | k, b, u :: r, hs, i + 1, t, h => by
    have := stood_forms_ok hs.2 i t (by simpa using h)
    rwa [show k + 1 + i = k + (i + 1) by omega] at this
theorem secsUp_append (gen : Nat) (b : List (List UInt8)) : ∀ (k : Nat) (a : List (List UInt8)), secsUp gen k (a ++ b) = secsUp gen k a + secsUp gen (k + a.length) b
  | k, [] => by simp [secsUp]
  | k, t :: r => by
    simp only [List.cons_append, secsUp, secsUp_append gen b (k + 1) r, List.length_cons]
    rw [show k + 1 + r.length = k + (r.length + 1) by omega]
    omega
theorem formsX_append (x : UInt8) (gen : Nat) (b : List (List UInt8)) : ∀ (k : Nat) (a : List (List UInt8)), formsX x gen k (a ++ b) = formsX x gen k a ++ formsX x gen (k + a.length) b
  | k, [] => by simp [formsX]
  | k, t :: r => by
    simp only [List.cons_append, formsX, formsX_append x gen b (k + 1) r, List.length_cons, List.append_assoc]
    rw [show k + 1 + r.length = k + (r.length + 1) by omega]

/-- what a device shows with x in the part from a on, so many sectors, and V elsewhere -/
def laidAt (V : List UInt8) (a m : Nat) (x : List UInt8) : List UInt8 := V.take (64 * a) ++ (x ++ V.drop (64 * (a + m)))
theorem laid_part {d : Dv} {V x : List UInt8} {n a m : Nat} (hv : d.view = laidAt V a m x) (hV : V.length = n * 64) (ham : a + m ≤ n) (hx : x.length = 64 * m) : d.part a m = x := by
  have h1 : (V.take (64 * a)).length = 64 * a := by rw [List.length_take, hV]; omega
  unfold Dv.part laidAt at *
  rw [hv, List.drop_left' h1, List.take_left' hx]
/-- another part shows what it showed -/
theorem laid_other {d : Dv} {V x : List UInt8} {n a m a' m' : Nat} (hv : d.view = laidAt V a m x) (hV : V.length = n * 64) (ham : a + m ≤ n) (hx : x.length = 64 * m) (hap : a' + m' ≤ a ∨ a + m ≤ a') : d.part a' m' = (V.drop (64 * a')).take (64 * m') := by
  have h1 : (V.take (64 * a)).length = 64 * a := by rw [List.length_take, hV]; omega
  unfold Dv.part
  rw [hv]
  unfold laidAt
  apply List.ext_getElem?
  intro i
  rw [List.getElem?_take, List.getElem?_take]
  split
  · rename_i hi
    rw [List.getElem?_drop, List.getElem?_drop]
    rcases hap with h | h
    · rw [List.getElem?_append_left (by rw [h1]; omega), List.getElem?_take, if_pos (by omega)]
    · rw [List.getElem?_append_right (by rw [h1]; omega), h1, List.getElem?_append_right (by rw [hx]; omega), hx, List.getElem?_drop]
      congr 1
      omega
  · rfl

/-- a journal of a part: os stood there, whole; ts were added since, and not flushed -/
structure RunP (J : Jn) (n a m gen : Nat) (V : List UInt8) (os ts : List (List UInt8)) : Prop where
  ok : J.Ok
  up : J.d.Up
  dn : J.d.n = n
  jgen : J.gen = gen
  jk : J.k = os.length + ts.length
  next : J.next = a + secsUp gen 0 (os ++ ts)
  fin : J.fin = a + m
  jL : J.L = firsts gen os.length (a + secsUp gen 0 os) ts
  live : J.dead = false
  forms : ∀ (i : Nat) t, (os ++ ts)[i]? = some t → formE gen (i : Int) t = 0
  vlen : V.length = n * 64
  am : a + m ≤ n
  view : J.d.view = laidAt V a m (formsX 1 gen 0 os ++ (formsX 0 gen os.length ts ++ List.replicate (64 * (m - secsUp gen 0 (os ++ ts))) 0))
theorem RunP.used {J : Jn} {n a m gen : Nat} {V : List UInt8} {os ts : List (List UInt8)} (h : RunP J n a m gen V os ts) : secsUp gen 0 (os ++ ts) ≤ m := by
  have := h.ok.next
  rw [h.next, h.fin] at this
  omega
theorem RunP.room {J : Jn} {n a m gen : Nat} {V : List UInt8} {os ts : List (List UInt8)} (h : RunP J n a m gen V os ts) : J.fin - J.next = m - secsUp gen 0 (os ++ ts) := by rw [h.fin, h.next]; omega
theorem RunP.len {J : Jn} {n a m gen : Nat} {V : List UInt8} {os ts : List (List UInt8)} (h : RunP J n a m gen V os ts) :
    (formsX 1 gen 0 os ++ (formsX 0 gen os.length ts ++ List.replicate (64 * (m - secsUp gen 0 (os ++ ts))) 0)).length = 64 * m := by
  have := h.used
  rw [secsUp_append, Nat.zero_add] at this
  rw [List.length_append, List.length_append, formsX_length, formsX_length, List.length_replicate, secsUp_append, Nat.zero_add]
  omega
/-- the part shows the records that stand in it, once all is flushed -/
theorem RunP.part {J : Jn} {n a m gen : Nat} {V : List UInt8} {os : List (List UInt8)} (h : RunP J n a m gen V os []) : J.d.part a m = formsX 1 gen 0 os ++ List.replicate (64 * (m - secsUp gen 0 os)) 0 := by
  rw [laid_part h.view h.vlen h.am h.len]
  simp [formsX]
theorem RunP.scanned {J : Jn} {n a m gen : Nat} {V : List UInt8} {os : List (List UInt8)} (h : RunP J n a m gen V os []) : Scanned gen (J.d.part a m) os := by
  rw [h.part]
  exact scanned_forms fun i t hi => h.forms i t (by simpa using hi)
theorem RunP.scanned_no {J : Jn} {n a m gen oth : Nat} {V : List UInt8} {os : List (List UInt8)} (h : RunP J n a m gen V os []) (hne : gen ≠ oth) : Scanned oth (J.d.part a m) [] := by
  rw [h.part]
  exact scanned_other hne fun i t hi => h.forms i t (by simpa using hi)
/-- a journal that was opened -/
theorem RunP.opened {d : Dv} {n a m gen : Nat} {os : List (List UInt8)} (hu : d.Up) (ho : d.Ok) (hn : d.n = n) (ham : a + m ≤ n) (hg : gen ≤ 1099511627776) (hs : Scanned gen (d.part a m) os) :
    ∃ d', d.wiped (a + secsUp gen 0 os) (m - secsUp gen 0 os) false = (0, d') ∧ RunP (Jn.opened d' gen a m os) n a m gen d.view os [] ∧ (d'.L = [] ∨ d' = d) := by
  have hv := view_length ho
  rw [hn] at hv
  have hpl : (d.part a m).length = 64 * m := by unfold Dv.part; rw [List.length_take, List.length_drop, hv]; omega
  have hle : secsUp gen 0 os ≤ m := by have := hs.1.le; rw [hpl] at this; omega
  obtain ⟨d', h1, h2, h3, h4, h5, h6⟩ := up_wiped (m - secsUp gen 0 os) d (a + secsUp gen 0 os) false hu ho (by omega)
  obtain ⟨u, hu'⟩ : ∃ u, secsUp gen 0 os = u := ⟨_, rfl⟩
  have hn4 := ho.n
  have hge := secsUp_ge gen 0 os
  refine ⟨d', h1, ⟨⟨h3, hg, by show os.length ≤ _; omega, by show a + secsUp gen 0 os ≤ a + m; omega, by show a + m ≤ d'.n; omega, fun p hp => (by cases hp), Nat.zero_le _⟩, h2, by show d'.n = n; omega, rfl, rfl, by show a + _ = _; rw [List.append_nil], rfl, rfl, rfl, fun i t hi => ?_, hv, ham, ?_⟩, h6⟩
  · rw [List.append_nil] at hi
    have := stood_forms_ok hs.1 i t hi
    simpa using this
  · show d'.view = _
    rw [h5]
    obtain ⟨c, hc⟩ := stood_prefix hs.1
    have hfl := formsX_length 1 gen 0 os
    have e1 : d.view.take (64 * (a + secsUp gen 0 os)) = d.view.take (64 * a) ++ formsX 1 gen 0 os := by
      rw [show 64 * (a + secsUp gen 0 os) = 64 * a + 64 * secsUp gen 0 os by omega, List.take_add]
      congr 1
      have : formsX 1 gen 0 os = (d.part a m).take (64 * secsUp gen 0 os) := by rw [← hc, ← hfl, List.take_left]
      rw [this]
      unfold Dv.part
      rw [List.take_take, Nat.min_eq_left (by omega)]
    unfold put laidAt
    rw [e1, List.length_replicate, List.append_nil, show 64 * (a + secsUp gen 0 os) + 64 * (m - secsUp gen 0 os) = 64 * (a + m) by omega]
    simp [formsX, List.append_assoc]
theorem RunP.add {J : Jn} {n a m gen : Nat} {V : List UInt8} {os ts : List (List UInt8)} (h : RunP J n a m gen V os ts) {t : List UInt8} (hf : formE gen ((os.length + ts.length : Nat) : Int) t = 0) (hr : manyOf gen (os.length + ts.length) t ≤ m - secsUp gen 0 (os ++ ts)) :
    ∃ J', J.add t = (0, J') ∧ RunP J' n a m gen V os (ts ++ [t]) ∧ J'.d.L.length = J.d.L.length + manyOf gen (os.length + ts.length) t := by
  have hm := formE_nat hf
  have husd := h.used
  have hge := secsUp_ge gen 0 (os ++ ts)
  have hlt4 := h.ok.d.n
  rw [h.dn] at hlt4
  have ham := h.am
  rw [List.length_append] at hge
  have hfl := form_length 0 gen (os.length + ts.length) t
  have hin : ∀ p ∈ J.form0 t, p.1 < J.d.n ∧ p.2.length = 64 := by
    unfold Jn.form0
    rw [h.jgen, h.jk, h.dn]
    exact chunks_in (by rw [hfl]; omega) (by rw [h.next]; omega)
  have hp := up_puts h.up hin
  have hcl : (J.form0 t).length = manyOf gen (os.length + ts.length) t := by unfold Jn.form0; rw [h.jgen, h.jk]; simp [chunks]
  have hsn : secsUp gen 0 (os ++ (ts ++ [t])) = secsUp gen 0 (os ++ ts) + manyOf gen (os.length + ts.length) t := by
    rw [← List.append_assoc, secsUp_snoc, Nat.zero_add, List.length_append]
  refine ⟨J.more t { J.d with L := J.d.L ++ J.form0 t }, ?_, ?_, by show (J.d.L ++ J.form0 t).length = _; rw [List.length_append, hcl]⟩
  · unfold Jn.add
    rw [if_neg (by rw [h.live]; simp), h.jgen, h.jk, if_neg (by omega), h.room, if_neg (by omega), hp, if_pos rfl]
  · have hok2 : ({ J.d with L := J.d.L ++ J.form0 t } : Dv).Ok := by
      have := puts_ok (J.form0 t) h.ok.d
      rwa [hp] at this
    have hLin : ∀ p ∈ (J.more t { J.d with L := J.d.L ++ J.form0 t }).L, p.1 < J.d.n ∧ p.2.length = 64 := by
      intro p hp
      simp only [Jn.more, List.mem_append, List.mem_singleton] at hp
      rcases hp with hp | rfl
      · exact h.ok.L p hp
      · have := secs_pos (restB gen (os.length + ts.length) t).length
        refine ⟨by show J.next < J.d.n; rw [h.dn, h.next]; unfold manyOf at hr; omega, ?_⟩
        rw [h.jgen, h.jk]
        exact sec_length (n := manyOf gen (os.length + ts.length) t) (by rw [form_length]; omega) this
    refine ⟨⟨hok2, h.ok.gen, ?_, ?_, h.ok.fin, hLin, ?_⟩, h.up, h.dn, h.jgen, ?_, ?_, h.fin, ?_, h.live, ?_, h.vlen, h.am, ?_⟩
    · show J.k + 1 ≤ _; rw [h.jk]; omega
    · show J.next + manyOf J.gen J.k t ≤ J.fin
      rw [h.jgen, h.jk, h.fin, h.next]; omega
    · show (J.L ++ [_]).length ≤ _
      rw [List.length_append, h.jL, firsts_length]; simp; omega
    · show J.k + 1 = _; rw [h.jk]; simp; omega
    · show J.next + manyOf J.gen J.k t = _
      rw [hsn, h.jgen, h.jk, h.next]; omega
    · show J.L ++ [_] = _
      rw [firsts_snoc, h.jL, h.jgen, h.jk, h.next, secsUp_append, Nat.zero_add, Nat.add_assoc]
    · intro i u hu
      rw [← List.append_assoc, List.getElem?_append] at hu
      split at hu
      · exact h.forms i u hu
      · rename_i hi
        have e : i = (os ++ ts).length := by
          have := (List.getElem?_eq_some_iff.1 hu).1
          simp at this hi ⊢; omega
        subst e
        simp at hu
        subst hu
        rw [List.length_append]
        exact hf
    · show ({ J.d with L := J.d.L ++ J.form0 t } : Dv).view = _
      have hvl := view_length h.ok.d
      rw [h.dn] at hvl
      rw [view_more _ _ (fun p hp => (hin p hp).2)]
      have e := puts_chunks (f := formX 0 gen (os.length + ts.length) t) (m := manyOf gen (os.length + ts.length) t) (by rw [hfl]; omega) (S := J.d.view) (o := J.next) _ (Nat.le_refl _) (by rw [hvl, h.next]; omega)
      have e2 : J.form0 t = chunks (formX 0 gen (os.length + ts.length) t) J.next (manyOf gen (os.length + ts.length) t) := by unfold Jn.form0; rw [h.jgen, h.jk]
      have hVt : (V.take (64 * a)).length = 64 * a := by rw [List.length_take, h.vlen]; omega
      rw [e2, e, ← hfl, List.take_length, h.view, hsn]
      have hal : (V.take (64 * a) ++ (formsX 1 gen 0 os ++ formsX 0 gen os.length ts)).length = 64 * J.next := by
        rw [List.length_append, List.length_append, hVt, formsX_length, formsX_length, h.next, secsUp_append, Nat.zero_add]; omega
      have hL0 : laidAt V a m (formsX 1 gen 0 os ++ (formsX 0 gen os.length ts ++ List.replicate (64 * (m - secsUp gen 0 (os ++ ts))) 0)) =
          (V.take (64 * a) ++ (formsX 1 gen 0 os ++ formsX 0 gen os.length ts)) ++ List.replicate (64 * manyOf gen (os.length + ts.length) t) 0 ++ (List.replicate (64 * (m - (secsUp gen 0 (os ++ ts) + manyOf gen (os.length + ts.length) t))) 0 ++ V.drop (64 * (a + m))) := by
        have hrep : List.replicate (64 * (m - secsUp gen 0 (os ++ ts))) (0 : UInt8) = List.replicate (64 * manyOf gen (os.length + ts.length) t) 0 ++ List.replicate (64 * (m - (secsUp gen 0 (os ++ ts) + manyOf gen (os.length + ts.length) t))) 0 := by
          rw [List.replicate_append_replicate]
          congr 1
          omega
        unfold laidAt
        rw [hrep]
        simp only [List.append_assoc]
      rw [hL0, ← hal, put_over (by rw [hfl, List.length_replicate])]
      unfold laidAt
      rw [formsX_snoc]
      simp only [List.append_assoc]
theorem RunP.full {J : Jn} {n a m gen : Nat} {V : List UInt8} {os ts : List (List UInt8)} (h : RunP J n a m gen V os ts) {t : List UInt8} (hf : formE gen ((os.length + ts.length : Nat) : Int) t = 0) (hr : ¬ manyOf gen (os.length + ts.length) t ≤ m - secsUp gen 0 (os ++ ts)) : J.add t = (6, J) := by
  unfold Jn.add
  rw [if_neg (by rw [h.live]; simp), h.jgen, h.jk, if_neg (by omega), h.room, if_pos (by omega)]
theorem RunP.flush {J : Jn} {n a m gen : Nat} {V : List UInt8} {os ts : List (List UInt8)} (h : RunP J n a m gen V os ts) :
    ∃ J', J.flush = (0, J') ∧ RunP J' n a m gen V (os ++ ts) [] ∧ J'.d.L = [] := by
  obtain ⟨f1, f2⟩ := up_flush h.up
  have hview : ∀ d : Dv, ({ d with S := d.view, L := [] } : Dv).view = d.view := fun _ => rfl
  have hup : J.d.flush.Up := by rw [f2]; exact h.up
  have hn : J.d.flush.n = n := by rw [f2]; exact h.dn
  have hok := h.ok.d.flush
  have hfin : ∀ (i : Nat) t, ((os ++ ts) ++ [])[i]? = some t → formE gen (i : Int) t = 0 := fun i t hi => h.forms i t (by simpa using hi)
  by_cases hL : J.L = []
  · have hts : ts = [] := by
      have := firsts_length gen os.length (a + secsUp gen 0 os) ts
      rw [← h.jL, hL] at this
      exact List.eq_nil_of_length_eq_zero this.symm
    subst hts
    refine ⟨{ J with d := J.d.flush }, ?_, ⟨⟨hok, h.ok.gen, h.ok.k, h.ok.next, by show J.fin ≤ J.d.flush.n; rw [hn, ← h.dn]; exact h.ok.fin, fun p hp => (by rw [show ({ J with d := J.d.flush } : Jn).L = J.L from rfl, hL] at hp; cases hp), h.ok.l⟩, hup, hn, h.jgen, by rw [List.append_nil]; exact h.jk, by rw [List.append_nil]; exact h.next, h.fin, hL, h.live, hfin, h.vlen, h.am, ?_⟩, by show J.d.flush.L = _; rw [f2]⟩
    · unfold Jn.flush
      rw [if_neg (by rw [h.live]; simp), if_neg (by rw [f1]; simp), if_pos hL]
    · show J.d.flush.view = _
      rw [f2, hview, h.view]
      simp
  · have hin : ∀ p ∈ J.L, p.1 < J.d.flush.n ∧ p.2.length = 64 := by rw [hn, ← h.dn]; exact h.ok.L
    have hp := up_puts hup hin
    have hup2 : ({ J.d.flush with L := J.d.flush.L ++ J.L } : Dv).Up := hup
    obtain ⟨g1, g2⟩ := up_flush hup2
    have hok2 := puts_ok J.L hok
    refine ⟨{ J with d := (J.d.flush.puts J.L).2.flush, L := [] }, ?_, ⟨⟨hok2.flush, h.ok.gen, h.ok.k, h.ok.next, ?_, fun p hp => (by cases hp), Nat.zero_le _⟩, ?_, ?_, h.jgen, ?_, ?_, h.fin, rfl, h.live, hfin, h.vlen, h.am, ?_⟩, ?_⟩
    · unfold Jn.flush
      rw [if_neg (by rw [h.live]; simp), if_neg (by rw [f1]; simp), if_neg hL, if_neg (by rw [hp]; simp), if_neg (by rw [hp, g1]; simp)]
    · show J.fin ≤ (J.d.flush.puts J.L).2.flush.n
      rw [hp, g2]
      show J.fin ≤ J.d.flush.n
      rw [hn, ← h.dn]
      exact h.ok.fin
    · show (J.d.flush.puts J.L).2.flush.Up
      rw [hp, g2]
      exact hup
    · show (J.d.flush.puts J.L).2.flush.n = n
      rw [hp, g2]
      exact hn
    · show J.k = _
      rw [h.jk, List.length_append]; rfl
    · show J.next = _
      rw [List.append_nil]; exact h.next
    · show (J.d.flush.puts J.L).2.flush.view = _
      rw [hp, g2, hview, view_more _ _ (fun p hp => (hin p hp).2), f2, hview, h.view, h.jL]
      have hVt : (V.take (64 * a)).length = 64 * a := by have := h.am; rw [List.length_take, h.vlen]; omega
      have hal : (V.take (64 * a) ++ formsX 1 gen 0 os).length = 64 * (a + secsUp gen 0 os) := by rw [List.length_append, hVt, formsX_length]; omega
      have := puts_firsts gen (List.replicate (64 * (m - secsUp gen 0 (os ++ ts))) 0 ++ V.drop (64 * (a + m))) ts os.length (a + secsUp gen 0 os) _ hal
      unfold laidAt
      simp only [List.append_assoc, List.append_nil] at this ⊢
      rw [this, formsX_append, Nat.zero_add]
      simp [formsX]
    · show (J.d.flush.puts J.L).2.flush.L = []
      rw [hp, g2]
end Go.Proofs.YtjekcaoonaniaaaGreat
