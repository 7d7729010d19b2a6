/-
  THE REFERENCE's DEVICE IN MEMORY; Is, fail, may, counted.
-/
import Derived.Test.YtmipodnfkilcfaaDNew
set_option linter.unusedVariables false
set_option linter.unusedSimpArgs false
namespace Go.Proofs.Ytmipodnfkilcfaa.Dev
open Go.ChangeShapes Go.WideShapes Go.ChangeAt Go.RowKit Go.Proofs.Ytmipodnfkilcfaa.Mem Go.Proofs.Ytmipodnfkilcfaa.Args Go.Proofs.Ytmipodnfkilcfaa.Own
structure RAdr where
  d : Nat
  lb : Nat
  cap : Nat
  hv : Nat → Value
  nv : Nat → Value
def ncells : List (Nat × Nat) → List Value
  | [] => []
  | p :: l => .int .i64 (p.1 : Int) :: .int .i64 (p.2 : Int) :: ncells l
theorem ncells_len : ∀ l : List (Nat × Nat), (ncells l).length = l.length * 2
  | [] => rfl
  | p :: l => by simp [ncells, ncells_len l]; omega
theorem ncells_append : ∀ l r : List (Nat × Nat), ncells (l ++ r) = ncells l ++ ncells r
  | [], _ => rfl
  | p :: l, r => by simp [ncells, ncells_append l r]
theorem ncells_one (l : List (Nat × Nat)) : ∀ u ∈ ncells l, u.oneCell' = true := by
  induction l with
  | nil => intro u h; cases h
  | cons p l ih =>
    intro u h
    simp only [ncells, List.mem_cons] at h
    rcases h with rfl | rfl | h
    · rfl
    · rfl
    · exact ih u h
theorem ncells_at : ∀ (l : List (Nat × Nat)) (i : Nat) (h : i < l.length), (ncells l)[i * 2]? = some (.int .i64 (l[i].1 : Int)) ∧ (ncells l)[i * 2 + 1]? = some (.int .i64 (l[i].2 : Int))
  | [], _, h => absurd h (by simp)
  | p :: l, 0, _ => by simp [ncells]
  | p :: l, i + 1, h => by
    rw [show (i + 1) * 2 = i * 2 + 1 + 1 by omega]
    simpa [ncells] using ncells_at l i (by simpa using h)
/-- A row that is only read: v reads n elements of two cells, xs. -/
def Row2 (w : World) (base : Nat) (T : TypeId) (v : Value) (n : Nat) (xs : List Value) : Prop := w.ownsRow base T 2 v n xs
section
variable {w w' : World} {base n : Nat} {T : TypeId} {v : Value} {xs : List Value}
theorem Row2.lt (h : Row2 w base T v n xs) : ∀ g, v.ownBlock = some g → base ≤ g ∧ g < w.heap.size := World.ownsRow.lt h
theorem Row2.of_block (h : Row2 w base T v n xs) (hb : ∀ g, v.ownBlock = some g → w'.heap[g]? = w.heap[g]?) : Row2 w' base T v n xs := by
  refine ⟨h.1, ?_⟩
  rcases h.2 with hn | ⟨g, cap, cur, rfl, hbg, hgg, rest⟩
  · exact .inl hn
  · exact .inr ⟨g, cap, cur, rfl, hbg, by rw [hb g rfl]; exact hgg, rest⟩
theorem Row2.only {F : Nat → Prop} (h : Row2 w base T v n xs) (ho : Only F w w') (hn : ∀ g, v.ownBlock = some g → ¬ F g) : Row2 w' base T v n xs :=
  h.of_block fun g hg => ho.block g (h.lt g hg).2 (hn g hg)
theorem Row2.mono {b : Nat} (h : Row2 w base T v n xs) (hb : b ≤ base) : Row2 w b T v n xs := by
  refine ⟨h.1, ?_⟩
  rcases h.2 with hn | ⟨g, cap, cur, rfl, hbg, rest⟩
  · exact .inl hn
  · exact .inr ⟨g, cap, cur, rfl, Nat.le_trans hb hbg, rest⟩
/-- Its form, and its cells. -/
theorem Row2.form (h : Row2 w base T v n xs) : ∃ C c, v = .slice C n c ∧ n ≤ c ∧ c ≤ maxLen ∧ (C = none → c = 0) ∧ ∀ g, v.ownBlock = some g → C = some ⟨g, 0, none⟩ ∧ ∀ o, o < n * 2 → w.cell? ⟨g, o, none⟩ = xs[o]? := by
  rcases h.2 with ⟨rfl, rfl⟩ | ⟨g, cap, cur, rfl, hb, hg, hnc, hcm, hcs, ht⟩
  · exact ⟨none, 0, rfl, Nat.le_refl _, by simp [maxLen], fun _ => rfl, fun g hg => by cases hg⟩
  · refine ⟨_, cap, rfl, hnc, hcm, fun h => (by cases h), fun g' hg' => ?_⟩
    have e : g = g' := Option.some.inj hg'
    subst e
    exact ⟨rfl, fun o ho => row_cell hg ht ho⟩
end
def leftI (l : Option Nat) : Int := match l with | none => -1 | some m => (m : Int)
def refG (A : RAdr) (S : St) (o : Nat) : Value :=
  if o = 0 then .slice (some ⟨A.lb, 0, none⟩) S.n A.cap else if o < 9 then A.nv (o - 1) else if o < 17 then .int .i64 (S.err (o - 9) : Int)
  else if o = 17 then .int .i64 (leftI S.left) else if o = 18 then .bool S.off else .int .u64 (S.ex : Int)
def rlinesG (A : RAdr) (S : St) (o : Nat) : Value :=
  if o % 10 < 8 then wordG (S.pers (o / 10)) (o % 10) else if o % 10 = 8 then A.hv (o / 10) else .int .i64 (S.gone (o / 10) : Int)
structure IsRef (w : World) (base : Nat) (A : RAdr) (S : St) : Prop where
  dev : Blk w A.d 70 20 (refG A S)
  lines : Blk w A.lb 73 (S.n * 10) (rlinesG A S)
  hist : ∀ i, i < S.n → Row2 w base 105 (A.hv i) (S.hist i).length (hcells (S.hist i)) ∧ (A.hv i).ownBlock ≠ some A.d ∧ (A.hv i).ownBlock ≠ some A.lb
  notes : ∀ t, t < 8 → Row2 w base 112 (A.nv t) (S.notes t).length (ncells (S.notes t)) ∧ (A.nv t).ownBlock ≠ some A.d ∧ (A.nv t).ownBlock ≠ some A.lb
  dl : A.d ≠ A.lb
  bd : base ≤ A.d
  bl : base ≤ A.lb
def RStep (w w' : World) (base : Nat) (A : RAdr) (S' : St) : Prop := ∃ A' : RAdr, A'.d = A.d ∧ A'.lb = A.lb ∧ IsRef w' base A' S' ∧ Only (fun b => b = A.d ∨ b = A.lb) w w'
def RB (w : World) (A : RAdr) (S : St) : Prop := Blk w A.d 70 20 (refG A S)
section
variable {w w' : World} {base : Nat} {A : RAdr} {S S' : St}
theorem IsRef.only {F : Nat → Prop} (h : IsRef w base A S) (ho : Only F w w') (hF : ∀ b, F b → b < base ∨ w.heap.size ≤ b) : IsRef w' base A S where
  dev := ho.blk h.dev (fun f => by have h1 := h.dev.lt; have h2 := h.bd; rcases hF _ f with h3 | h3 <;> omega)
  lines := ho.blk h.lines (fun f => by have h1 := h.lines.lt; have h2 := h.bl; rcases hF _ f with h3 | h3 <;> omega)
  hist i hi := ⟨(h.hist i hi).1.only ho (fun g hg f => by have h1 := (h.hist i hi).1.lt g hg; rcases hF _ f with h3 | h3 <;> omega), (h.hist i hi).2⟩
  notes t ht := ⟨(h.notes t ht).1.only ho (fun g hg f => by have h1 := (h.notes t ht).1.lt g hg; rcases hF _ f with h3 | h3 <;> omega), (h.notes t ht).2⟩
  dl := h.dl
  bd := h.bd
  bl := h.bl
theorem IsRef.below {B : Nat} (h : IsRef w base A S) (hb : Below B w w') (hB : w.heap.size ≤ B) : IsRef w' base A S :=
  h.only (F := fun _ => False) ⟨hb.os, hb.tape, hb.output, hb.size, fun k hk _ => hb.block k (by omega)⟩ (fun _ f => f.elim)
/-- The device's own block alone was written, the notes stay. -/
theorem IsRef.ctl (h : IsRef w base A S) (hd : RB w' A S') (ho : Only (fun b => b = A.d) w w') (hs : SameData S S') : IsRef w' base A S' where
  dev := hd
  lines := by
    have := ho.blk h.lines (fun e => h.dl e.symm)
    rw [hs.n]
    exact this.ext fun o _ => by unfold rlinesG; rw [hs.pers, hs.gone]
  hist i hi := by
    rw [hs.hist]; rw [hs.n] at hi
    exact ⟨(h.hist i hi).1.only ho (fun g hg e => (h.hist i hi).2.1 (by rw [hg, e])), (h.hist i hi).2⟩
  notes t ht := by
    rw [hs.notes]
    exact ⟨(h.notes t ht).1.only ho (fun g hg e => (h.notes t ht).2.1 (by rw [hg, e])), (h.notes t ht).2⟩
  dl := h.dl
  bd := h.bd
  bl := h.bl
theorem IsRef.ctlStep (h : IsRef w base A S) (hd : RB w' A S') (ho : Only (fun b => b = A.d) w w') (hs : SameData S S') : RStep w w' base A S' :=
  ⟨A, rfl, rfl, h.ctl hd ho hs, ho.mono fun b hb => .inl hb⟩
theorem RStep.refl (h : IsRef w base A S) : RStep w w base A S := ⟨A, rfl, rfl, h, Only.refl _ _⟩
theorem RStep.pre {w0 : World} (ho : Only (fun b => b = A.d ∨ b = A.lb) w0 w) (h : RStep w w' base A S') : RStep w0 w' base A S' := by
  obtain ⟨A', a1, a2, a3, a4⟩ := h
  exact ⟨A', a1, a2, a3, ho.trans a4⟩
theorem RStep.then (h : RStep w w' base A S') {w'' : World} (hb : Below w'.heap.size w' w'') : RStep w w'' base A S' := by
  obtain ⟨A', a1, a2, a3, a4⟩ := h
  exact ⟨A', a1, a2, a3.below hb (Nat.le_refl _), a4.trans (Only.ofBelow hb _)⟩
theorem refG_note (A : RAdr) (S : St) {t : Nat} (ht : t < 8) : refG A S (1 + t) = A.nv t := by
  unfold refG; rw [if_neg (by omega), if_pos (by omega), show 1 + t - 1 = t by omega]
theorem refG_err (A : RAdr) (S : St) {t : Nat} (ht : t < 8) : refG A S (9 + t) = .int .i64 (S.err t : Int) := by
  unfold refG; rw [if_neg (by omega), if_neg (by omega), if_pos (by omega), show 9 + t - 9 = t by omega]
theorem RB.c0 (h : RB w A S) : w.cell? ⟨A.d, 0, none⟩ = some (.slice (some ⟨A.lb, 0, none⟩) S.n A.cap) := by
  have := h.cell (o := 0) (by omega)
  simpa [refG] using this
theorem RB.cOff (h : RB w A S) : w.cell? ⟨A.d, 18, none⟩ = some (.bool S.off) := by rw [h.cell (o := 18) (by omega)]; rfl
theorem RB.cLeft (h : RB w A S) : w.cell? ⟨A.d, 17, none⟩ = some (.int .i64 (leftI S.left)) := by rw [h.cell (o := 17) (by omega)]; rfl
theorem RB.cEx (h : RB w A S) : w.cell? ⟨A.d, 19, none⟩ = some (.int .u64 (S.ex : Int)) := by rw [h.cell (o := 19) (by omega)]; rfl
theorem refG_far (A : RAdr) (S S' : St) (o : Nat) (hn : S'.n = S.n) (he : S'.err = S.err) (hl : o ≠ 17 → True) (h17 : o = 17 → S'.left = S.left) (h18 : o = 18 → S'.off = S.off) (h19 : 19 ≤ o → S'.ex = S.ex) : refG A S' o = refG A S o := by
  unfold refG
  rw [hn, he]
  by_cases k1 : o = 0
  · simp only [k1, if_true]
  · by_cases k2 : o < 9
    · simp only [k1, k2, if_false, if_true]
    · by_cases k3 : o < 17
      · simp only [k1, k2, k3, if_false, if_true]
      · by_cases k4 : o = 17
        · subst k4; simp [h17 rfl]
        · by_cases k5 : o = 18
          · subst k5; simp [h18 rfl]
          · simp only [k1, k2, k3, k4, k5, if_false, h19 (by omega)]
theorem RB.setErr (h : RB w A S) {t : Nat} (ht : t < 8) (e : Nat) (h0 : S.err t = 0) : RB (w.setCell ⟨A.d, 9 + t, none⟩ (.int .i64 (e : Int))) A (S.setErr t e) := by
  refine (Blk.set h (9 + t) (.int .i64 (e : Int))).ext fun o ho => ?_
  by_cases h1 : o = 9 + t
  · subst h1; rw [upd_same, refG_err _ _ ht]; simp [St.setErr, h0]
  · rw [upd_other _ _ h1]
    unfold refG St.setErr
    simp only
    by_cases k2 : o < 17
    · have k3 : o < 9 ∨ ¬ (o - 9 = t) := by omega
      rcases k3 with k3 | k3
      · by_cases k1 : o = 0
        · simp only [k1, if_true]
        · simp only [k1, k3, if_false, if_true]
      · simp only [k3, false_and, if_false]
    · simp only [k2, if_false]
end
theorem rfail_any (w : World) (A : RAdr) (S : St) (t e : Nat) (h : RB w A S) (ht : t < 8) (he : e ≤ 3) :
    Calls Try.prog 70 #[.pointer (some ⟨A.d, 0, none⟩), .int .i64 (t : Int), .int .i64 (e : Int)] w fun r w' => r = .returned (.tuple #[]) ∧ Hid (RB w' A (S.setErr t e) ∧ Only (fun b => b = A.d) w w') := by
  have hc := h.cell (o := 9 + t) (by omega)
  have hz := h.frozen (9 + t)
  rw [refG_err _ _ ht] at hc
  have HD := Lib.hid h
  have ht8 : (t : Int) < 8 := by omega
  clear h
  by_cases h0 : S.err t = 0
  · have H0 := Lib.hid h0
    rw [h0] at hc
    clear h0
    go_enter Try.func70, Try.ntmps70
    go_wp2
    go_end0
    exact ⟨rfl, Lib.hid ⟨HD.out.setErr ht e H0.out, (Only.refl _ _).set _ _ (.inl rfl)⟩⟩
  · have hb : ((S.err t : Int) == 0) = false := by simp; omega
    have HS := Lib.hid (S.setErr_same t e h0)
    generalize hE : S.err t = E at hc hb
    clear h0 hE
    go_enter Try.func70, Try.ntmps70
    go_wp2
    go_end0
    exact ⟨rfl, Lib.hid ⟨by rw [HS.out]; exact HD.out, Only.refl _ _⟩⟩
theorem rmay_any (w : World) (A : RAdr) (S : St) (t : Nat) (v : Bool) (h : RB w A S) (ht : t < 8) :
    Calls Try.prog 59 #[.pointer (some ⟨A.d, 0, none⟩), .int .i64 (t : Int), .bool v] w fun r w' => r = .returned (.bool (S.may v)) ∧ Hid (RB w' A (S.mayS t v) ∧ Only (fun b => b = A.d) w w') := by
  have co := h.cOff
  have HD := Lib.hid h
  have HF := fun e he => Lib.hid (rfail_any w A S t e h ht he)
  have HF3 := HF 3 (by omega)
  have HF2 := HF 2 (by omega)
  clear h HF
  by_cases h1 : S.off = true
  · have HE : Hid (S.may v = false ∧ S.mayS t v = S.setErr t 3) := by simp [Hid, St.may, St.mayS, h1]
    rw [h1] at co
    clear h1
    go_enter Try.func59, Try.ntmps59
    go_wp2_with (go_at_call 70; refine HF3.out.mono ?_; rintro e w' ⟨rfl, HQ⟩)
    go_ret
    exact ⟨ret_bool HE.out.1.symm, Lib.hid (by rw [HE.out.2]; exact HQ.out)⟩
  · rw [show S.off = false by simpa using h1] at co
    cases v
    · have HE : Hid (S.may false = false ∧ S.mayS t false = S.setErr t 2) := by simp [Hid, St.may, St.mayS, h1]
      clear h1
      go_enter Try.func59, Try.ntmps59
      go_wp2_with (go_at_call 70; refine HF2.out.mono ?_; rintro e w' ⟨rfl, HQ⟩)
      go_ret
      exact ⟨ret_bool HE.out.1.symm, Lib.hid (by rw [HE.out.2]; exact HQ.out)⟩
    · have HE : Hid (S.may true = true ∧ S.mayS t true = S) := by simp [Hid, St.may, St.mayS, h1]
      clear h1
      go_enter Try.func59, Try.ntmps59
      go_wp2_with (go_at_call 70; refine HF2.out.mono ?_; rintro e w' ⟨rfl, HQ⟩)
      go_ret
      exact ⟨ret_bool HE.out.1.symm, Lib.hid (by rw [HE.out.2]; exact ⟨HD.out, Only.refl _ _⟩)⟩
end Go.Proofs.Ytmipodnfkilcfaa.Dev
