/-
  SCHED: the law's last question.
-/
import Derived.Test.YthnaogfcffmphaaWLaw
import Derived.Test.YthnaogfcffmphaaDMore
set_option linter.unusedVariables false
set_option linter.unusedSimpArgs false
namespace Go.Proofs.Ythnaogfcffmphaa.Sched
open Go.ChangeShapes Go.WideShapes Go.ChangeAt Go.RowKit Go.Proofs.Ythnaogfcffmphaa.Mem Go.Proofs.Ythnaogfcffmphaa.Law Go.Proofs.Ythnaogfcffmphaa.Args Go.Proofs.Ythnaogfcffmphaa.Own Go.Proofs.Ythnaogfcffmphaa.Dev
structure LastQ (W w : World) (Z : WD) (B : Nat → Nat) (ab sb : Nat) (st : List Int) : Prop where
  dev : ∃ Ad S, Ad.d = Z.d ∧ IsDev w Z.b0 Ad S ∧ DevAt S (Wp.play Z st).vals
  at_ : Blk w ab 3 2 (atG Z st)
  ptr : Blk w sb 64 2 (fun o => .pointer (some ⟨B o, 0, none⟩))
  wr : ∀ i, i < 2 → Blk w (B i) 66 4 (wrG Z i ((Wp.play Z st).ats i))
  bel : Below W.heap.size W w
  b0 : W.heap.size ≤ Z.b0
  few : st.length ≤ 100
theorem LastQ.of {W wx wr : World} {Z : WD} {B : Nat → Nat} {st : List Int} {As : Option Addr} {ls cs lb sb k : Nat} {v : Value} (h : After W wx Z B st As ls cs v lb sb) (hz : Z.Bv ≤ W.heap.size) (hb0 : W.heap.size ≤ Z.b0) (hc : Counted W wx wr Z st k) (hk : k = ls) : LastQ W wr Z B wx.heap.size sb st := by
  have h2 := h.later hc.bel hz
  obtain ⟨s, base, e1, e2, e3⟩ := h2.wr
  obtain ⟨Ad, S, g1, g2, g3, g4⟩ := e3.dev
  rw [e1] at g3
  refine ⟨⟨Ad, S, g1, g2, g3⟩, ?_, h2.ptr, fun i hi => ?_, h2.bel, hb0, by have := h.len; have := h.few; omega⟩
  · have := hc.at_
    rwa [List.take_of_length_le (by have := h.len; omega)] at this
  · obtain ⟨m, _, _, q, b⟩ := e3.objs i hi
    rw [e1] at q
    rw [q]; exact b
theorem LastQ.dev_step {F : Nat → Prop} {W w w' : World} {Z : WD} {B : Nat → Nat} {ab sb : Nat} {st : List Int} (h : LastQ W w Z B ab sb st) (ho : Only F w w') (hF : ∀ b, F b → devTag (tagAt w b)) (hlow : ∀ b, F b → W.heap.size ≤ b) (hd : ∃ Ad S, Ad.d = Z.d ∧ IsDev w' Z.b0 Ad S ∧ DevAt S (Wp.play Z st).vals) : LastQ W w' Z B ab sb st := by
  have hn : ∀ {b T}, Tag w b T → ¬ devTag (some T) → ¬ F b := fun t nd f => by
    have := hF _ f
    rw [t.at] at this
    exact nd this
  exact ⟨hd, ho.blk h.at_ (hn (blk_tag h.at_) nd_int), ho.blk h.ptr (hn (blk_tag h.ptr) (by unfold devTag; decide)), fun i hi => ho.blk (h.wr i hi) (hn (blk_tag (h.wr i hi)) (by unfold devTag; decide)), h.bel.trans (ho.below h.bel.size hlow), h.b0, h.few⟩
theorem LastQ.vfew {W w : World} {Z : WD} {B : Nat → Nat} {ab sb : Nat} {st : List Int} (h : LastQ W w Z B ab sb st) : (Wp.play Z st).vals.length ≤ 100 := Nat.le_trans (Wp.vals_le Z st) h.few
theorem end_load {W w : World} {Z : WD} {B : Nat → Nat} {ab sb : Nat} {st : List Int} (h : LastQ W w Z B ab sb st) :
    Calls Try.prog 31 #[.pointer (some ⟨Z.d, 1, none⟩), .int .u64 64] w fun e w' => e = .returned (.int .u64 ((Wp.play Z st).vals.getLastD 0 : Nat)) ∧ Hid (LastQ W w' Z B ab sb st) := by
  obtain ⟨Ad, S, g1, g2, g3⟩ := h.dev
  rw [← g1]
  have := load_any w Z.b0 _ Ad S 0 64 g2 g3.ok (by omega) (by omega)
  refine this.mono ?_
  rintro e w' ⟨he, H⟩
  have hl : S.loadS 0 64 = S := by unfold St.loadS St.mayS; rw [g3.isW, g3.off]; rfl
  refine ⟨by rw [he, g3.load], Lib.hid ?_⟩
  obtain ⟨A', a1, a2, a3, a4, a5⟩ := H.out
  rw [hl] at a3
  exact h.dev_step a4 (fun b f => devFoot g2 f) (fun b f => Nat.le_trans h.b0 (g2.baseLe b f)) ⟨A', S, a1.trans g1, a3, g3⟩
theorem end_hist {W w : World} {Z : WD} {B : Nat → Nat} {ab sb : Nat} {st : List Int} (h : LastQ W w Z B ab sb st) :
    Calls Try.prog 32 #[.pointer (some ⟨Z.d, 0, none⟩), .int .i64 1] w fun e w' => ∃ C c, e = .returned (.slice C (Wp.play Z st).vals.length c) ∧ Hid (LastQ W w' Z B ab sb st) := by
  obtain ⟨Ad, S, g1, g2, g3⟩ := h.dev
  rw [← g1]
  have hv := h.vfew
  have := history_any w Z.b0 _ Ad S 1 g2 g3.ok (by omega) (by rw [g3.n]; omega)
  refine this.mono ?_
  rintro e w' ⟨v, he, H⟩
  have hl : (S.hist 1).length = (Wp.play Z st).vals.length := by rw [g3.hist]; simp [vals64]
  obtain ⟨C, c, hvf⟩ : ∃ C c, v = .slice C (Wp.play Z st).vals.length c := by
    rcases H.out.1.form with ⟨rfl, e0⟩ | ⟨g, cap, cur, rfl, _⟩
    · rw [e0] at hl
      exact ⟨none, 0, by rw [← hl]; rfl⟩
    · exact ⟨_, _, by rw [← hl]⟩
  refine ⟨C, c, by rw [he, hvf], Lib.hid ?_⟩
  exact h.dev_step (Only.ofBelow H.out.2 (fun _ => False)) (fun _ f => f.elim) (fun _ f => f.elim) ⟨Ad, S, g1, g2.below H.out.2 (Nat.le_refl _), g3⟩
theorem LastQ.drewN {W w : World} {Z : WD} {B : Nat → Nat} {ab sb : Nat} {st : List Int} (h : LastQ W w Z B ab sb st) (n : Nat) : LastQ W (w.drewN n) Z B ab sb st := by
  obtain ⟨Ad, S, g1, g2, g3⟩ := h.dev
  have ho := (Only.refl (fun _ => False) w).drewN n
  exact h.dev_step ho (fun _ f => f.elim) (fun _ f => f.elim) ⟨Ad, S, g1, g2.only ho (fun _ _ f => f), g3⟩
theorem LastQ.drew {W w : World} {Z : WD} {B : Nat → Nat} {ab sb : Nat} {st : List Int} (h : LastQ W w Z B ab sb st) : LastQ W w.drew Z B ab sb st := by
  obtain ⟨Ad, S, g1, g2, g3⟩ := h.dev
  have ho := (Only.refl (fun _ => False) w).drew
  exact h.dev_step ho (fun _ f => f.elim) (fun _ f => f.elim) ⟨Ad, S, g1, g2.only ho (fun _ _ f => f), g3⟩
theorem LastQ.cells {W w : World} {Z : WD} {s ab a0 a1 : Nat} {st : List Int} (h0 : (Wp.play Z st).ats 0 = a0) (h1 : (Wp.play Z st).ats 1 = a1) (h : LastQ W w Z (fun i => s + i) ab (s + 2) st) :
    w.cell? ⟨ab, 0, none⟩ = some (.int .i64 (a0 : Int)) ∧ w.cell? ⟨ab, 1, none⟩ = some (.int .i64 (a1 : Int)) ∧ w.cell? ⟨s + 1 + 1, 0, none⟩ = some (.pointer (some ⟨s, 0, none⟩)) ∧ w.cell? ⟨s + 1 + 1, 1, none⟩ = some (.pointer (some ⟨s + 1, 0, none⟩)) ∧ w.cell? ⟨s, 3, none⟩ = some (.int .i64 (a0 : Int)) ∧ w.cell? ⟨s + 1, 3, none⟩ = some (.int .i64 (a1 : Int)) := by
  subst h0 h1
  exact ⟨h.at_.cell (o := 0) (by omega), h.at_.cell (o := 1) (by omega), h.ptr.cell (o := 0) (by omega), h.ptr.cell (o := 1) (by omega), (h.wr 0 (by omega)).cell (o := 3) (by omega), (h.wr 1 (by omega)).cell (o := 3) (by omega)⟩
end Go.Proofs.Ythnaogfcffmphaa.Sched
