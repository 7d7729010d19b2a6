/-
  DEVICE: what a change of one part leaves of the whole.
-/
import Derived.Test.YtnhddgmegnehaaaDoorDCount
set_option linter.unusedVariables false
set_option linter.unusedSimpArgs false
namespace Go.Proofs.YtnhddgmegnehaaaDoor.Dev
open Go.ChangeShapes Go.WideShapes Go.ChangeAt Go.RowKit Go.Proofs.YtnhddgmegnehaaaDoor.Mem
structure SameData (S S' : St) : Prop where
  n : S'.n = S.n
  pers : S'.pers = S.pers
  hist : S'.hist = S.hist
  gone : S'.gone = S.gone
  notes : S'.notes = S.notes
  ex : S.ex ≤ S'.ex
theorem SameData.refl (S : St) : SameData S S := ⟨rfl, rfl, rfl, rfl, rfl, Nat.le_refl _⟩
theorem SameData.setErr (S : St) (t e : Nat) : SameData S (S.setErr t e) := ⟨rfl, rfl, rfl, rfl, rfl, Nat.le_refl _⟩
theorem SameData.trans {S S' S'' : St} (h : SameData S S') (k : SameData S' S'') : SameData S S'' := ⟨k.n.trans h.n, k.pers.trans h.pers, k.hist.trans h.hist, k.gone.trans h.gone, k.notes.trans h.notes, Nat.le_trans h.ex k.ex⟩
theorem SameData.tk (S : St) : SameData S S.tk := by
  unfold St.tk
  split
  · exact ⟨rfl, rfl, rfl, rfl, rfl, Nat.le_refl _⟩
  · exact ⟨rfl, rfl, rfl, rfl, rfl, Nat.le_succ _⟩
theorem SameData.mayS (S : St) (t : Nat) (v : Bool) : SameData S (S.mayS t v) := by
  unfold St.mayS
  split
  · exact .setErr _ _ _
  · split
    · exact .refl _
    · exact .setErr _ _ _
theorem SameData.cntS (S : St) (t : Nat) (v : Bool) : SameData S (S.cntS t v) := by
  unfold St.cntS
  split
  · exact .setErr _ _ _
  · split
    · split
      · exact (SameData.tk S).trans (.setErr _ _ _)
      · exact .tk _
    · exact .setErr _ _ _
/-- The device lies as before but for what the step has written. -/
def Step (w w' : World) (base : Nat) (A : Adr) (S S' : St) : Prop :=
  ∃ A', A'.d = A.d ∧ A'.lb = A.lb ∧ IsDev w' base A' S' ∧ Only (A.foot S.n) w w' ∧ ∀ b, A'.foot S.n b → A.foot S.n b ∨ w.heap.size ≤ b
theorem linesG_ext {A A' : Adr} {S S' : St} {o : Nat} (h1 : S'.pers (o / 18) = S.pers (o / 18)) (h2 : S'.hist (o / 18) = S.hist (o / 18)) (h3 : S'.gone (o / 18) = S.gone (o / 18)) (h4 : A'.hv (o / 18) = A.hv (o / 18)) : linesG A' S' o = linesG A S o := by
  unfold linesG St.cur
  rw [h1, h2, h3, h4]
section
variable {w w' : World} {base : Nat} {A : Adr} {S S' : St}
theorem IsDev.db (h : IsDev w base A S) : DB w A S := h.dev
theorem IsDev.ownLt (h : IsDev w base A S) : ∀ b, A.foot S.n b → b < w.heap.size := fun b hb => by
  rcases hb with rfl | rfl | ⟨i, hi, hb⟩ | ⟨t, ht, hb⟩
  · exact h.dev.lt
  · exact h.lines.lt
  · exact ((h.hist i hi).lt b hb).2
  · rcases h.maps t ht with ⟨h1, _⟩ | ⟨c, h1, _, n, D, _, h2, _⟩
    · rw [h1] at hb; cases hb
    · rw [h1] at hb; cases hb
      exact h2.lt
theorem IsDev.baseLe (h : IsDev w base A S) : ∀ b, A.foot S.n b → base ≤ b := fun b hb => by
  rcases hb with rfl | rfl | ⟨i, hi, hb⟩ | ⟨t, ht, hb⟩
  · exact h.bd
  · exact h.bl
  · exact ((h.hist i hi).lt b hb).1
  · rcases h.maps t ht with ⟨h1, _⟩ | ⟨c, h1, h2, _⟩
    · rw [h1] at hb; cases hb
    · rw [h1] at hb; cases hb
      exact h2
theorem MapAt.mono {b m m' : Nat} {l : List (Nat × Nat)} (h : MapAt w b m l) (hm : m ≤ m') : MapAt w b m' l := by
  obtain ⟨n, D, h1, h2⟩ := h
  exact ⟨n, D, Nat.le_trans h1 hm, h2⟩
theorem MapAt.of_block {b m : Nat} {l : List (Nat × Nat)} (h : MapAt w b m l) (he : w'.heap[b]? = w.heap[b]?) : MapAt w' b m l := by
  obtain ⟨n, D, h0, h1, h2⟩ := h
  refine ⟨n, D, h0, ?_, h2⟩
  obtain ⟨es, clock, hb, r⟩ := h1
  exact ⟨es, clock, by rw [he]; exact hb, r⟩
/-- Another world in which all its blocks are as they were. -/
theorem IsDev.only {F : Nat → Prop} (h : IsDev w base A S) (ho : Only F w w') (hn : ∀ b, A.foot S.n b → ¬ F b) : IsDev w' base A S where
  dev := ho.blk h.dev (hn _ (.inl rfl))
  lines := ho.blk h.lines (hn _ (.inr (.inl rfl)))
  hist i hi := (h.hist i hi).only ho fun b hb => hn b (.inr (.inr (.inl ⟨i, hi, hb⟩)))
  maps t ht := by
    rcases h.maps t ht with h1 | ⟨b, h1, h2, h3⟩
    · exact .inl h1
    · exact .inr ⟨b, h1, h2, h3.of_block (ho.block b (h.ownLt b (.inr (.inr (.inr ⟨t, ht, h1⟩)))) (hn b (.inr (.inr (.inr ⟨t, ht, h1⟩)))))⟩
  apart := h.apart
  bd := h.bd
  bl := h.bl
theorem IsDev.below {B : Nat} (h : IsDev w base A S) (hb : Below B w w') (hB : w.heap.size ≤ B) : IsDev w' base A S :=
  h.only (F := fun _ => False) ⟨hb.os, hb.tape, hb.output, hb.size, fun k hk _ => hb.block k (by omega)⟩ (fun _ _ h => h)
/-- The device's own block alone was written. -/
theorem IsDev.ctl (h : IsDev w base A S) (hd : DB w' A S') (ho : Only (fun b => b = A.d) w w') (hs : SameData S S') : IsDev w' base A S' where
  dev := hd
  lines := by
    have := ho.blk h.lines (fun e => h.apart.dl e.symm)
    rw [hs.n]
    exact this.ext fun o _ => linesG_ext (by rw [hs.pers]) (by rw [hs.hist]) (by rw [hs.gone]) rfl
  hist i hi := by
    rw [hs.hist]; rw [hs.n] at hi
    exact (h.hist i hi).only ho fun b hb e => h.apart.hd i hi (by rw [hb, e])
  maps t ht := by
    rw [hs.notes]
    rcases h.maps t ht with h1 | ⟨b, h1, h2, h3⟩
    · exact .inl h1
    · exact .inr ⟨b, h1, h2, (h3.of_block (ho.block b (h.ownLt b (.inr (.inr (.inr ⟨t, ht, h1⟩)))) (fun e => h.apart.md t ht (by rw [h1, e])))).mono hs.ex⟩
  apart := by rw [hs.n]; exact h.apart
  bd := h.bd
  bl := h.bl
theorem IsDev.ctlStep (h : IsDev w base A S) (hd : DB w' A S') (ho : Only (fun b => b = A.d) w w') (hs : SameData S S') : Step w w' base A S S' :=
  ⟨A, rfl, rfl, h.ctl hd ho hs, ho.mono fun b hb => .inl hb, fun b hb => .inl hb⟩
theorem Step.refl (h : IsDev w base A S) : Step w w base A S S := ⟨A, rfl, rfl, h, Only.refl _ _, fun b hb => .inl hb⟩
theorem Step.trans {w'' : World} {S'' : St} (h : Step w w' base A S S') (hn : S'.n = S.n) (k : ∀ A', A'.d = A.d → A'.lb = A.lb → IsDev w' base A' S' → Step w' w'' base A' S' S'') : Step w w'' base A S S'' := by
  obtain ⟨A', a1, a2, a3, a4, a5⟩ := h
  obtain ⟨A'', b1, b2, b3, b4, b5⟩ := k A' a1 a2 a3
  rw [hn] at b4 b5
  refine ⟨A'', b1.trans a1, b2.trans a2, b3, a4.trans' b4 a5, fun b hb => ?_⟩
  rcases b5 b hb with h1 | h1
  · exact a5 b h1
  · exact .inr (Nat.le_trans a4.size h1)
/-- Worlds that differ in no block. -/
theorem Step.after {w0 : World} (h0 : IsDev w0 base A S) (hb : Below w0.heap.size w0 w) (h : Step w w' base A S S') : Step w0 w' base A S S' := by
  obtain ⟨A', a1, a2, a3, a4, a5⟩ := h
  refine ⟨A', a1, a2, a3, (Only.ofBelow hb _).trans a4, fun b hbb => ?_⟩
  rcases a5 b hbb with h1 | h1
  · exact .inl h1
  · exact .inr (Nat.le_trans hb.size h1)
theorem Step.then (h : Step w w' base A S S') {w'' : World} (hb : Below w'.heap.size w' w'') : Step w w'' base A S S' := by
  obtain ⟨A', a1, a2, a3, a4, a5⟩ := h
  exact ⟨A', a1, a2, a3.below hb (Nat.le_refl _), a4.trans (Only.ofBelow hb _), a5⟩
theorem foot_hv {A : Adr} {n l : Nat} {hv' : Value} {m : Nat} (hown : hv'.ownBlock = (A.hv l).ownBlock ∨ ∃ b, hv'.ownBlock = some b ∧ m ≤ b) (hl : l < n) :
    ∀ b, ({ A with hv := fun i => if i = l then hv' else A.hv i } : Adr).foot n b → A.foot n b ∨ m ≤ b := fun b hb => by
  rcases hb with h | h | ⟨i, hi, h⟩ | h
  · exact .inl (.inl h)
  · exact .inl (.inr (.inl h))
  · simp only at h
    by_cases e : i = l
    · rw [if_pos e] at h
      rcases hown with h1 | ⟨c, h1, h2⟩
      · exact .inl (.inr (.inr (.inl ⟨l, hl, by rw [← h1]; exact h⟩)))
      · rw [h1] at h; cases h; exact .inr h2
    · rw [if_neg e] at h
      exact .inl (.inr (.inr (.inl ⟨i, hi, h⟩)))
  · exact .inl (.inr (.inr (.inr h)))
/-- One line was written. -/
theorem IsDev.lineI (h : IsDev w base A S) {l : Nat} (hl : l < S.n) (hn : S'.n = S.n) (hnt : S'.notes = S.notes) (her : S'.err = S.err) (hex : S'.ex = S.ex) (hof : S'.off = S.off) (hle : S'.left = S.left)
    (hot : ∀ i, i ≠ l → S'.pers i = S.pers i ∧ S'.hist i = S.hist i ∧ S'.gone i = S.gone i) (hv' : Value) (g' : Nat → Value) (hB : Blk w' A.lb 81 (S.n * 18) g') (hg : ∀ o, (o < l * 18 ∨ l * 18 + 18 ≤ o) → g' o = linesG A S o)
    (h1 : ∀ j, j < 8 → g' (l * 18 + j) = wordG (S'.pers l) j) (h2 : ∀ j, j < 8 → g' (l * 18 + 8 + j) = wordG (S'.cur l) j) (h3 : g' (l * 18 + 16) = hv') (h4 : g' (l * 18 + 17) = .int .u64 (S'.gone l : Int)) (hh : Hist w' base hv' (S'.hist l))
    (ho : Only (fun b => b = A.lb ∨ (A.hv l).ownBlock = some b) w w') (hown : hv'.ownBlock = (A.hv l).ownBlock ∨ ∃ b, hv'.ownBlock = some b ∧ w.heap.size ≤ b) : IsDev w' base { A with hv := fun i => if i = l then hv' else A.hv i } S' := by
  have fr : ∀ b, b < w.heap.size → ∀ c, hv'.ownBlock = some c → c = b → (A.hv l).ownBlock = some b := fun b hb c hc e => by
    subst e
    rcases hown with k | ⟨b', k1, k2⟩
    · rw [← k]; exact hc
    · rw [k1] at hc; cases hc; omega
  · refine ⟨?_, ?_, fun i hi => ?_, fun t ht => ?_, ?_, h.bd, h.bl⟩
    · have := ho.blk h.dev (fun e => by rcases e with e | e; exact h.apart.dl e; exact h.apart.hd l hl e)
      refine this.ext fun o _ => ?_
      unfold devG
      simp only [hn, her, hex, hof, hle]
    · rw [hn]
      refine hB.ext fun o ho' => ?_
      by_cases e : o / 18 = l
      · have e2 : o = l * 18 + o % 18 := by omega
        unfold linesG
        simp only
        by_cases k1 : o % 18 < 8
        · rw [if_pos k1, e, e2, h1 _ k1, show (l * 18 + o % 18) % 18 = o % 18 by omega]
        · by_cases k2 : o % 18 < 16
          · rw [if_neg k1, if_pos k2, e, show g' o = g' (l * 18 + 8 + (o % 18 - 8)) by congr 1; omega, h2 _ (by omega)]
          · by_cases k3 : o % 18 = 16
            · rw [if_neg k1, if_neg k2, if_pos k3, e, if_pos rfl, show g' o = g' (l * 18 + 16) by congr 1; omega, h3]
            · rw [if_neg k1, if_neg k2, if_neg k3, e, show g' o = g' (l * 18 + 17) by congr 1; omega, h4]
      · rw [hg o (by omega)]
        obtain ⟨a1, a2, a3⟩ := hot _ e
        exact linesG_ext a1 a2 a3 (by simp only; rw [if_neg e])
    · rw [hn] at hi
      by_cases e : i = l
      · subst e; simp only [if_true]; exact hh
      · simp only [if_neg e]
        rw [(hot i e).2.1]
        refine (h.hist i hi).only ho fun b hb hx => ?_
        rcases hx with hx | hx
        · exact h.apart.hl i hi (by rw [hb, hx])
        · exact h.apart.hh i l hi hl e b hb hx
    · rw [hnt, hex]
      rcases h.maps t ht with m1 | ⟨b, m1, m2, m3⟩
      · exact .inl m1
      · refine .inr ⟨b, m1, m2, m3.of_block (ho.block b (h.ownLt b (.inr (.inr (.inr ⟨t, ht, m1⟩)))) fun e => ?_)⟩
        rcases e with e | e
        · exact h.apart.ml t ht (by rw [m1, e])
        · exact h.apart.mh t l ht hl b m1 e
    · rw [hn]
      have hdlt := h.dev.lt
      have hllt := h.lines.lt
      refine ⟨h.apart.dl, fun i hi => ?_, fun i hi => ?_, fun i j hi hj hne b hb => ?_, h.apart.md, h.apart.ml, fun t i ht hi b hb => ?_, h.apart.mm⟩
      · simp only
        split
        · intro e; exact h.apart.hd l hl (fr _ hdlt _ e rfl)
        · exact h.apart.hd i hi
      · simp only
        split
        · intro e; exact h.apart.hl l hl (fr _ hllt _ e rfl)
        · exact h.apart.hl i hi
      · simp only at hb ⊢
        by_cases e1 : i = l
        · have e2 : j ≠ l := fun e => hne (by rw [e1, e])
          rw [if_pos e1] at hb
          rw [if_neg e2]
          intro e3
          have := fr b ((h.hist j hj).lt b e3).2 b hb rfl
          exact h.apart.hh l j hl hj (by omega) b this e3
        · rw [if_neg e1] at hb
          by_cases e2 : j = l
          · rw [if_pos e2]
            intro e3
            have := fr b ((h.hist i hi).lt b hb).2 b e3 rfl
            exact h.apart.hh i l hi hl e1 b hb this
          · rw [if_neg e2]; exact h.apart.hh i j hi hj hne b hb
      · simp only
        split
        · intro e
          exact h.apart.mh t l ht hl b hb (fr b (h.ownLt b (.inr (.inr (.inr ⟨t, ht, hb⟩)))) b e rfl)
        · exact h.apart.mh t i ht hi b hb
theorem IsDev.line (h : IsDev w base A S) {l : Nat} (hl : l < S.n) (hn : S'.n = S.n) (hnt : S'.notes = S.notes) (her : S'.err = S.err) (hex : S'.ex = S.ex) (hof : S'.off = S.off) (hle : S'.left = S.left)
    (hot : ∀ i, i ≠ l → S'.pers i = S.pers i ∧ S'.hist i = S.hist i ∧ S'.gone i = S.gone i) (hv' : Value) (g' : Nat → Value) (hB : Blk w' A.lb 81 (S.n * 18) g') (hg : ∀ o, (o < l * 18 ∨ l * 18 + 18 ≤ o) → g' o = linesG A S o)
    (h1 : ∀ j, j < 8 → g' (l * 18 + j) = wordG (S'.pers l) j) (h2 : ∀ j, j < 8 → g' (l * 18 + 8 + j) = wordG (S'.cur l) j) (h3 : g' (l * 18 + 16) = hv') (h4 : g' (l * 18 + 17) = .int .u64 (S'.gone l : Int)) (hh : Hist w' base hv' (S'.hist l))
    (ho : Only (fun b => b = A.lb ∨ (A.hv l).ownBlock = some b) w w') (hown : hv'.ownBlock = (A.hv l).ownBlock ∨ ∃ b, hv'.ownBlock = some b ∧ w.heap.size ≤ b) : Step w w' base A S S' :=
  ⟨{ A with hv := fun i => if i = l then hv' else A.hv i }, rfl, rfl, h.lineI hl hn hnt her hex hof hle hot hv' g' hB hg h1 h2 h3 h4 hh ho hown, ho.mono fun b hb => by
    rcases hb with hb | hb
    · exact .inr (.inl hb)
    · exact .inr (.inr (.inl ⟨l, hl, hb⟩)), foot_hv hown hl⟩
end
end Go.Proofs.YtnhddgmegnehaaaDoor.Dev
