/-
  JOINED TEXTS: RState RCount RWords ROps RPut RLoad RPersist RBack RFence RFlush RContent RDirty RCurrent RNew.
-/
import Derived.Test.YtbonponclcehiaaZB
import Derived.Deep.Cut
import Derived.Deep.CutRange
import Derived.Deep.CutBlock
import Derived.Test.YtbonponclcehiaaZA
set_option linter.unusedVariables false
set_option linter.unusedSimpArgs false
/-
  THE REFERENCE's DEVICE IN MEMORY; Is, fail, may, counted.
-/
namespace Go.Proofs.Ytbonponclcehiaa.Dev
open Go.ChangeShapes Go.WideShapes Go.ChangeAt Go.RowKit Go.Proofs.Ytbonponclcehiaa.Mem Go.Proofs.Ytbonponclcehiaa.Args Go.Proofs.Ytbonponclcehiaa.Own
structure RAdr where
  d : Nat
  lb : Nat
  hv : Nat → Value
  nv : Nat → Value
def ncells : List (Nat × Nat) → List Value
  | [] => []
  | p :: l => .int .i64 (p.1 : Int) :: .int .i64 (p.2 : Int) :: ncells l
theorem ncells_len : ∀ l : List (Nat × Nat), (ncells l).length = l.length * 2
  | [] => rfl
  | p :: l => by simp [ncells, ncells_len l]; omega
theorem ncells_append : ∀ l r : List (Nat × Nat), ncells (l ++ r) = ncells l ++ ncells r
  | [], _ => rfl
  | p :: l, r => by simp [ncells, ncells_append l r]
theorem ncells_one (l : List (Nat × Nat)) : ∀ u ∈ ncells l, u.oneCell' = true := by
  induction l with
  | nil => intro u h; cases h
  | cons p l ih =>
    intro u h
    simp only [ncells, List.mem_cons] at h
    rcases h with rfl | rfl | h
    · rfl
    · rfl
    · exact ih u h
theorem ncells_at : ∀ (l : List (Nat × Nat)) (i : Nat) (h : i < l.length), (ncells l)[i * 2]? = some (.int .i64 (l[i].1 : Int)) ∧ (ncells l)[i * 2 + 1]? = some (.int .i64 (l[i].2 : Int))
  | [], _, h => absurd h (by simp)
  | p :: l, 0, _ => by simp [ncells]
  | p :: l, i + 1, h => by
    rw [show (i + 1) * 2 = i * 2 + 1 + 1 by omega]
    simpa [ncells] using ncells_at l i (by simpa using h)
/-- A row that is only read: v reads n elements of two cells, xs. -/
def Row2 (w : World) (base : Nat) (T : TypeId) (v : Value) (n : Nat) (xs : List Value) : Prop := w.ownsRow base T 2 v n xs
section
variable {w w' : World} {base n : Nat} {T : TypeId} {v : Value} {xs : List Value}
theorem Row2.lt (h : Row2 w base T v n xs) : ∀ g, v.ownBlock = some g → base ≤ g ∧ g < w.heap.size := World.ownsRow.lt h
theorem Row2.of_block (h : Row2 w base T v n xs) (hb : ∀ g, v.ownBlock = some g → w'.heap[g]? = w.heap[g]?) : Row2 w' base T v n xs := by
  refine ⟨h.1, ?_⟩
  rcases h.2 with hn | ⟨g, cap, cur, rfl, hbg, hgg, rest⟩
  · exact .inl hn
  · exact .inr ⟨g, cap, cur, rfl, hbg, by rw [hb g rfl]; exact hgg, rest⟩
theorem Row2.only {F : Nat → Prop} (h : Row2 w base T v n xs) (ho : Only F w w') (hn : ∀ g, v.ownBlock = some g → ¬ F g) : Row2 w' base T v n xs :=
  h.of_block fun g hg => ho.block g (h.lt g hg).2 (hn g hg)
theorem Row2.mono {b : Nat} (h : Row2 w base T v n xs) (hb : b ≤ base) : Row2 w b T v n xs := by
  refine ⟨h.1, ?_⟩
  rcases h.2 with hn | ⟨g, cap, cur, rfl, hbg, rest⟩
  · exact .inl hn
  · exact .inr ⟨g, cap, cur, rfl, Nat.le_trans hb hbg, rest⟩
/-- Its form, and its cells. -/
theorem Row2.form (h : Row2 w base T v n xs) : ∃ C c, v = .slice C n c ∧ n ≤ c ∧ c ≤ maxLen ∧ (C = none → c = 0) ∧ ∀ g, v.ownBlock = some g → C = some ⟨g, 0, none⟩ ∧ ∀ o, o < n * 2 → w.cell? ⟨g, o, none⟩ = xs[o]? := by
  rcases h.2 with ⟨rfl, rfl⟩ | ⟨g, cap, cur, rfl, hb, hg, hnc, hcm, hcs, ht⟩
  · exact ⟨none, 0, rfl, Nat.le_refl _, by simp [maxLen], fun _ => rfl, fun g hg => by cases hg⟩
  · refine ⟨_, cap, rfl, hnc, hcm, fun h => (by cases h), fun g' hg' => ?_⟩
    have e : g = g' := Option.some.inj hg'
    subst e
    exact ⟨rfl, fun o ho => row_cell hg ht ho⟩
end
def leftI (l : Option Nat) : Int := match l with | none => -1 | some m => (m : Int)
def refG (A : RAdr) (S : St) (o : Nat) : Value :=
  if o = 0 then .slice (some ⟨A.lb, 0, none⟩) S.n S.n else if o < 9 then A.nv (o - 1) else if o < 17 then .int .i64 (S.err (o - 9) : Int)
  else if o = 17 then .int .i64 (leftI S.left) else if o = 18 then .bool S.off else .int .u64 (S.ex : Int)
def rlinesG (A : RAdr) (S : St) (o : Nat) : Value :=
  if o % 10 < 8 then wordG (S.pers (o / 10)) (o % 10) else if o % 10 = 8 then A.hv (o / 10) else .int .i64 (S.gone (o / 10) : Int)
structure IsRef (w : World) (base : Nat) (A : RAdr) (S : St) : Prop where
  dev : Blk w A.d 91 20 (refG A S)
  lines : Blk w A.lb 85 (S.n * 10) (rlinesG A S)
  hist : ∀ i, i < S.n → Row2 w base 127 (A.hv i) (S.hist i).length (hcells (S.hist i)) ∧ (A.hv i).ownBlock ≠ some A.d ∧ (A.hv i).ownBlock ≠ some A.lb
  notes : ∀ t, t < 8 → Row2 w base 124 (A.nv t) (S.notes t).length (ncells (S.notes t)) ∧ (A.nv t).ownBlock ≠ some A.d ∧ (A.nv t).ownBlock ≠ some A.lb
  dl : A.d ≠ A.lb
  bd : base ≤ A.d
  bl : base ≤ A.lb
def RStep (w w' : World) (base : Nat) (A : RAdr) (S' : St) : Prop := ∃ A' : RAdr, A'.d = A.d ∧ A'.lb = A.lb ∧ IsRef w' base A' S' ∧ Only (fun b => b = A.d ∨ b = A.lb) w w'
def RB (w : World) (A : RAdr) (S : St) : Prop := Blk w A.d 91 20 (refG A S)
section
variable {w w' : World} {base : Nat} {A : RAdr} {S S' : St}
theorem IsRef.only {F : Nat → Prop} (h : IsRef w base A S) (ho : Only F w w') (hF : ∀ b, F b → b < base ∨ w.heap.size ≤ b) : IsRef w' base A S where
  dev := ho.blk h.dev (fun f => by have h1 := h.dev.lt; have h2 := h.bd; rcases hF _ f with h3 | h3 <;> omega)
  lines := ho.blk h.lines (fun f => by have h1 := h.lines.lt; have h2 := h.bl; rcases hF _ f with h3 | h3 <;> omega)
  hist i hi := ⟨(h.hist i hi).1.only ho (fun g hg f => by have h1 := (h.hist i hi).1.lt g hg; rcases hF _ f with h3 | h3 <;> omega), (h.hist i hi).2⟩
  notes t ht := ⟨(h.notes t ht).1.only ho (fun g hg f => by have h1 := (h.notes t ht).1.lt g hg; rcases hF _ f with h3 | h3 <;> omega), (h.notes t ht).2⟩
  dl := h.dl
  bd := h.bd
  bl := h.bl
theorem IsRef.below {B : Nat} (h : IsRef w base A S) (hb : Below B w w') (hB : w.heap.size ≤ B) : IsRef w' base A S :=
  h.only (F := fun _ => False) ⟨hb.os, hb.tape, hb.output, hb.size, fun k hk _ => hb.block k (by omega)⟩ (fun _ f => f.elim)
/-- The device's own block alone was written, the notes stay. -/
theorem IsRef.ctl (h : IsRef w base A S) (hd : RB w' A S') (ho : Only (fun b => b = A.d) w w') (hs : SameData S S') : IsRef w' base A S' where
  dev := hd
  lines := by
    have := ho.blk h.lines (fun e => h.dl e.symm)
    rw [hs.n]
    exact this.ext fun o _ => by unfold rlinesG; rw [hs.pers, hs.gone]
  hist i hi := by
    rw [hs.hist]; rw [hs.n] at hi
    exact ⟨(h.hist i hi).1.only ho (fun g hg e => (h.hist i hi).2.1 (by rw [hg, e])), (h.hist i hi).2⟩
  notes t ht := by
    rw [hs.notes]
    exact ⟨(h.notes t ht).1.only ho (fun g hg e => (h.notes t ht).2.1 (by rw [hg, e])), (h.notes t ht).2⟩
  dl := h.dl
  bd := h.bd
  bl := h.bl
theorem IsRef.ctlStep (h : IsRef w base A S) (hd : RB w' A S') (ho : Only (fun b => b = A.d) w w') (hs : SameData S S') : RStep w w' base A S' :=
  ⟨A, rfl, rfl, h.ctl hd ho hs, ho.mono fun b hb => .inl hb⟩
theorem RStep.refl (h : IsRef w base A S) : RStep w w base A S := ⟨A, rfl, rfl, h, Only.refl _ _⟩
theorem RStep.pre {w0 : World} (ho : Only (fun b => b = A.d ∨ b = A.lb) w0 w) (h : RStep w w' base A S') : RStep w0 w' base A S' := by
  obtain ⟨A', a1, a2, a3, a4⟩ := h
  exact ⟨A', a1, a2, a3, ho.trans a4⟩
theorem RStep.then (h : RStep w w' base A S') {w'' : World} (hb : Below w'.heap.size w' w'') : RStep w w'' base A S' := by
  obtain ⟨A', a1, a2, a3, a4⟩ := h
  exact ⟨A', a1, a2, a3.below hb (Nat.le_refl _), a4.trans (Only.ofBelow hb _)⟩
theorem refG_note (A : RAdr) (S : St) {t : Nat} (ht : t < 8) : refG A S (1 + t) = A.nv t := by
  unfold refG; rw [if_neg (by omega), if_pos (by omega), show 1 + t - 1 = t by omega]
theorem refG_err (A : RAdr) (S : St) {t : Nat} (ht : t < 8) : refG A S (9 + t) = .int .i64 (S.err t : Int) := by
  unfold refG; rw [if_neg (by omega), if_neg (by omega), if_pos (by omega), show 9 + t - 9 = t by omega]
theorem RB.c0 (h : RB w A S) : w.cell? ⟨A.d, 0, none⟩ = some (.slice (some ⟨A.lb, 0, none⟩) S.n S.n) := by
  have := h.cell (o := 0) (by omega)
  simpa [refG] using this
theorem RB.cOff (h : RB w A S) : w.cell? ⟨A.d, 18, none⟩ = some (.bool S.off) := by rw [h.cell (o := 18) (by omega)]; rfl
theorem RB.cLeft (h : RB w A S) : w.cell? ⟨A.d, 17, none⟩ = some (.int .i64 (leftI S.left)) := by rw [h.cell (o := 17) (by omega)]; rfl
theorem RB.cEx (h : RB w A S) : w.cell? ⟨A.d, 19, none⟩ = some (.int .u64 (S.ex : Int)) := by rw [h.cell (o := 19) (by omega)]; rfl
theorem refG_far (A : RAdr) (S S' : St) (o : Nat) (hn : S'.n = S.n) (he : S'.err = S.err) (hl : o ≠ 17 → True) (h17 : o = 17 → S'.left = S.left) (h18 : o = 18 → S'.off = S.off) (h19 : 19 ≤ o → S'.ex = S.ex) : refG A S' o = refG A S o := by
  unfold refG
  rw [hn, he]
  by_cases k1 : o = 0
  · simp only [k1, if_true]
  · by_cases k2 : o < 9
    · simp only [k1, k2, if_false, if_true]
    · by_cases k3 : o < 17
      · simp only [k1, k2, k3, if_false, if_true]
      · by_cases k4 : o = 17
        · subst k4; simp [h17 rfl]
        · by_cases k5 : o = 18
          · subst k5; simp [h18 rfl]
          · simp only [k1, k2, k3, k4, k5, if_false, h19 (by omega)]
theorem RB.setErr (h : RB w A S) {t : Nat} (ht : t < 8) (e : Nat) (h0 : S.err t = 0) : RB (w.setCell ⟨A.d, 9 + t, none⟩ (.int .i64 (e : Int))) A (S.setErr t e) := by
  refine (Blk.set h (9 + t) (.int .i64 (e : Int))).ext fun o ho => ?_
  by_cases h1 : o = 9 + t
  · subst h1; rw [upd_same, refG_err _ _ ht]; simp [St.setErr, h0]
  · rw [upd_other _ _ h1]
    unfold refG St.setErr
    simp only
    by_cases k2 : o < 17
    · have k3 : o < 9 ∨ ¬ (o - 9 = t) := by omega
      rcases k3 with k3 | k3
      · by_cases k1 : o = 0
        · simp only [k1, if_true]
        · simp only [k1, k3, if_false, if_true]
      · simp only [k3, false_and, if_false]
    · simp only [k2, if_false]
end
theorem rfail_any (w : World) (A : RAdr) (S : St) (t e : Nat) (h : RB w A S) (ht : t < 8) (he : e ≤ 3) :
    Calls Try.prog 87 #[.pointer (some ⟨A.d, 0, none⟩), .int .i64 (t : Int), .int .i64 (e : Int)] w fun r w' => r = .returned (.tuple #[]) ∧ Hid (RB w' A (S.setErr t e) ∧ Only (fun b => b = A.d) w w') := by
  have hc := h.cell (o := 9 + t) (by omega)
  have hz := h.frozen (9 + t)
  rw [refG_err _ _ ht] at hc
  have HD := Lib.hid h
  have ht8 : (t : Int) < 8 := by omega
  clear h
  by_cases h0 : S.err t = 0
  · have H0 := Lib.hid h0
    rw [h0] at hc
    clear h0
    go_enter Try.func87, Try.ntmps87
    go_wp2
    go_end0
    exact ⟨rfl, Lib.hid ⟨HD.out.setErr ht e H0.out, (Only.refl _ _).set _ _ (.inl rfl)⟩⟩
  · have hb : ((S.err t : Int) == 0) = false := by simp; omega
    have HS := Lib.hid (S.setErr_same t e h0)
    generalize hE : S.err t = E at hc hb
    clear h0 hE
    go_enter Try.func87, Try.ntmps87
    go_wp2
    go_end0
    exact ⟨rfl, Lib.hid ⟨by rw [HS.out]; exact HD.out, Only.refl _ _⟩⟩
theorem rmay_any (w : World) (A : RAdr) (S : St) (t : Nat) (v : Bool) (h : RB w A S) (ht : t < 8) :
    Calls Try.prog 85 #[.pointer (some ⟨A.d, 0, none⟩), .int .i64 (t : Int), .bool v] w fun r w' => r = .returned (.bool (S.may v)) ∧ Hid (RB w' A (S.mayS t v) ∧ Only (fun b => b = A.d) w w') := by
  have co := h.cOff
  have HD := Lib.hid h
  have HF := fun e he => Lib.hid (rfail_any w A S t e h ht he)
  have HF3 := HF 3 (by omega)
  have HF2 := HF 2 (by omega)
  clear h HF
  by_cases h1 : S.off = true
  · have HE : Hid (S.may v = false ∧ S.mayS t v = S.setErr t 3) := by simp [Hid, St.may, St.mayS, h1]
    rw [h1] at co
    clear h1
    go_enter Try.func85, Try.ntmps85
    go_wp2_with (go_at_call 87; refine HF3.out.mono ?_; rintro e w' ⟨rfl, HQ⟩)
    go_ret
    exact ⟨ret_bool HE.out.1.symm, Lib.hid (by rw [HE.out.2]; exact HQ.out)⟩
  · rw [show S.off = false by simpa using h1] at co
    cases v
    · have HE : Hid (S.may false = false ∧ S.mayS t false = S.setErr t 2) := by simp [Hid, St.may, St.mayS, h1]
      clear h1
      go_enter Try.func85, Try.ntmps85
      go_wp2_with (go_at_call 87; refine HF2.out.mono ?_; rintro e w' ⟨rfl, HQ⟩)
      go_ret
      exact ⟨ret_bool HE.out.1.symm, Lib.hid (by rw [HE.out.2]; exact HQ.out)⟩
    · have HE : Hid (S.may true = true ∧ S.mayS t true = S) := by simp [Hid, St.may, St.mayS, h1]
      clear h1
      go_enter Try.func85, Try.ntmps85
      go_wp2_with (go_at_call 87; refine HF2.out.mono ?_; rintro e w' ⟨rfl, HQ⟩)
      go_ret
      exact ⟨ret_bool HE.out.1.symm, Lib.hid (by rw [HE.out.2]; exact ⟨HD.out, Only.refl _ _⟩)⟩
end Go.Proofs.Ytbonponclcehiaa.Dev
/-
  THE REFERENCE's DEVICE: Is, counted.
-/
namespace Go.Proofs.Ytbonponclcehiaa.Dev
open Go.ChangeShapes Go.WideShapes Go.ChangeAt Go.RowKit Go.Proofs.Ytbonponclcehiaa.Mem Go.Proofs.Ytbonponclcehiaa.Args Go.Proofs.Ytbonponclcehiaa.Own
theorem ris_any (w : World) (A : RAdr) (S : St) (o : Nat) (h : RB w A S) (hn : S.n ≤ 4096) (ho : o < 18446744073709551616) :
    Calls Try.prog 77 #[.pointer (some ⟨A.d, 0, none⟩), .int .u64 (o : Int)] w fun r w' => r = .returned (.bool (S.isW o)) ∧ w' = w := by
  have c0 := h.c0
  have HE : Hid (S.isW o = (decide (o % 8 = 0) && decide (o / 64 < S.n))) := by
    unfold Hid St.isW
    by_cases h1 : o < S.n * 64
    · rw [decide_eq_true h1, decide_eq_true (show o / 64 < S.n by omega)]
    · rw [decide_eq_false h1, decide_eq_false (show ¬ o / 64 < S.n by omega)]
  generalize S.n = n at *
  clear h
  by_cases h8 : o % 8 = 0
  · have hb : (((o : Int) % 8) == 0) = true := by simp; omega
    have hb2 : (((o : Int).tmod 8) == 0) = true := by rw [Int.tmod_eq_emod_of_nonneg (by omega)]; exact hb
    obtain ⟨k, hk⟩ : ∃ k, o / 64 = k := ⟨_, rfl⟩
    have hd : (o : Int) / 64 = (k : Int) := by omega
    rw [hk] at HE
    clear hk
    go_enter Try.func77, Try.ntmps77
    go_wp2
    go_ret
    exact ⟨ret_bool (by rw [HE.out, decide_eq_true h8, Bool.true_and]), rfl⟩
  · have hb : (((o : Int) % 8) == 0) = false := by simp; omega
    have hb2 : (((o : Int).tmod 8) == 0) = false := by rw [Int.tmod_eq_emod_of_nonneg (by omega)]; exact hb
    go_enter Try.func77, Try.ntmps77
    go_wp2
    go_ret
    exact ⟨ret_bool (by rw [HE.out, decide_eq_false h8, Bool.false_and]), rfl⟩
theorem RB.offd {w : World} {A : RAdr} {S : St} (h : RB w A S) : RB (w.setCell ⟨A.d, 18, none⟩ (.bool true)) A { S with off := true } :=
  (Blk.set h 18 (.bool true)).ext fun o ho => by
    by_cases h1 : o = 18
    · subst h1; rw [upd_same]; rfl
    · rw [upd_other _ _ h1]; exact refG_far _ _ _ _ rfl rfl (fun _ => trivial) (fun _ => rfl) (fun e => absurd e h1) (fun _ => rfl)
theorem RB.ticked {w : World} {A : RAdr} {S : St} (h : RB w A S) (h0 : S.left = none) : RB (w.setCell ⟨A.d, 19, none⟩ (.int .u64 ((S.ex + 1 : Nat) : Int))) A S.tickS :=
  (Blk.set h 19 _).ext fun o ho => by
    by_cases h1 : o = 19
    · subst h1; rw [upd_same]; rfl
    · rw [upd_other _ _ h1]; exact refG_far _ _ _ _ rfl rfl (fun _ => trivial) (fun _ => by simp [St.tickS, h0]) (fun _ => rfl) (fun e => by omega)
theorem RB.ticked' {w : World} {A : RAdr} {S : St} {m : Nat} (h : RB w A S) (h0 : S.left = some (m + 1)) : RB ((w.setCell ⟨A.d, 17, none⟩ (.int .i64 (m : Int))).setCell ⟨A.d, 19, none⟩ (.int .u64 ((S.ex + 1 : Nat) : Int))) A S.tickS := by
  refine (Blk.set (Blk.set h 17 (.int .i64 (m : Int))) 19 _).ext fun o ho => ?_
  by_cases h1 : o = 19
  · subst h1; rw [upd_same]; rfl
  · rw [upd_other _ _ h1]
    by_cases h2 : o = 17
    · subst h2; rw [upd_same]; unfold refG St.tickS; simp [h0, leftI]
    · rw [upd_other _ _ h2]
      exact refG_far _ _ _ _ rfl rfl (fun _ => trivial) (fun e => absurd e h2) (fun _ => rfl) (fun e => by omega)
theorem rcounted_any (w : World) (A : RAdr) (S : St) (t : Nat) (v : Bool) (h : RB w A S) (ht : t < 8) (hx : S.ex ≤ 4294967295) (hm : ∀ m, S.left = some m → m ≤ 9223372036854775807) :
    Calls Try.prog 76 #[.pointer (some ⟨A.d, 0, none⟩), .int .i64 (t : Int), .bool v] w fun r w' => r = .returned (.bool (S.cnt v)) ∧ Hid (RB w' A (S.cntS t v) ∧ Only (fun b => b = A.d) w w') := by
  have HA := Lib.hid (rmay_any w A S t v h ht)
  by_cases h1 : S.may v = true
  · have h2 : S.off = false ∧ v = true := by simpa [St.may] using h1
    obtain ⟨hoff, rfl⟩ := h2
    have HT := Lib.hid (show S.mayS t true = S by simp [St.mayS, hoff])
    rw [h1] at HA
    have HE : Hid (S.cnt true = !S.dead ∧ S.cntS t true = if S.dead then S.tk.setErr t 3 else S.tk) := by simp [Hid, St.cnt, St.cntS, hoff]
    clear h h1 hoff
    rcases hL : S.left with _ | m
    · have HTK := Lib.hid (show S.dead = false ∧ S.tk = S.tickS by simp [St.tk, St.dead, hL])
      have HLE := Lib.hid hL
      clear hm hL
      go_enter Try.func76, Try.ntmps76
      go_wp2_with (go_at_call 85; refine HA.out.mono ?_; rintro e w1 ⟨rfl, HQ⟩; rw [HT.out] at HQ; have cl := HQ.out.1.cLeft; have ce := HQ.out.1.cEx; have zl := HQ.out.1.frozen 17; have ze := HQ.out.1.frozen 19; rw [HLE.out] at cl; have HTI := Lib.hid (HQ.out.1.ticked HLE.out); simp only [leftI] at cl; generalize S.ex = X at *)
      go_ret
      exact ⟨ret_bool (by rw [HE.out.1, HTK.out.1]; rfl), Lib.hid ⟨by rw [HE.out.2, HTK.out.1, HTK.out.2]; exact HTI.out, HQ.out.2.set _ _ (.inl rfl)⟩⟩
    · rcases m with _ | m
      · have HTK := Lib.hid (show S.dead = true ∧ S.tk = { S with off := true } by simp [St.tk, St.dead, hL])
        have HLE := Lib.hid hL
        clear hm hL
        go_enter Try.func76, Try.ntmps76
        go_wp2_with (first
          | (go_at_call 85; refine HA.out.mono ?_; rintro e w1 ⟨rfl, HQ⟩; rw [HT.out] at HQ; have cl : w1.cell? ⟨A.d, 17, none⟩ = some (.int .i64 0) := (by have := HQ.out.1.cLeft; rw [HLE.out] at this; exact this); have co := HQ.out.1.cOff; have zo := HQ.out.1.frozen 18; have HTI := Lib.hid HQ.out.1.offd; generalize S.off = bo at co)
          | (go_at_call 87; refine (rfail_any _ A { S with off := true } t 3 HTI.out ht (by omega)).mono ?_; rintro e w3 ⟨rfl, HZ⟩))
        go_ret
        exact ⟨ret_bool (by rw [HE.out.1, HTK.out.1]; rfl), Lib.hid ⟨by rw [HE.out.2, HTK.out.1, HTK.out.2]; exact HZ.out.1, (HQ.out.2.set _ _ (.inl rfl)).trans HZ.out.2⟩⟩
      · have HTK := Lib.hid (show S.dead = false ∧ S.tk = S.tickS by simp [St.tk, St.dead, hL])
        have HLE := Lib.hid hL
        have hmm := hm _ hL
        have hb : (((m + 1 : Nat) : Int) == 0) = false := by simp; omega
        have hg0 : (0 : Int) < ((m + 1 : Nat) : Int) := by omega
        obtain ⟨m1, hm1⟩ : ∃ m1, m + 1 = m1 := ⟨_, rfl⟩
        have hms : (m1 : Int) - 1 = (m : Int) := by omega
        have HL1 := Lib.hid (show leftI (some (m + 1)) = (m1 : Int) by rw [hm1]; rfl)
        rw [hm1] at hb hmm hg0
        clear hm hL hm1
        go_enter Try.func76, Try.ntmps76
        go_wp2_with (go_at_call 85; refine HA.out.mono ?_; rintro e w1 ⟨rfl, HQ⟩; rw [HT.out] at HQ; have cl := HQ.out.1.cLeft; have ce := HQ.out.1.cEx; have zl := HQ.out.1.frozen 17; have ze := HQ.out.1.frozen 19; rw [HLE.out, HL1.out] at cl; have HTI := Lib.hid (HQ.out.1.ticked' HLE.out); generalize S.ex = X at *)
        go_ret
        exact ⟨ret_bool (by rw [HE.out.1, HTK.out.1]; rfl), Lib.hid ⟨by rw [HE.out.2, HTK.out.1, HTK.out.2]; exact HTI.out, ((HQ.out.2.set _ _ (.inl rfl)).set _ _ (.inl rfl))⟩⟩
  · have h1' : S.may v = false := by simpa using h1
    have HE : Hid (S.cnt v = false ∧ S.cntS t v = S.mayS t v) := by
      unfold Hid St.cnt St.cntS St.mayS
      unfold St.may at h1'
      cases hoff : S.off <;> cases v <;> simp_all
    rw [h1'] at HA
    clear h h1 h1' hx hm
    go_enter Try.func76, Try.ntmps76
    go_wp2_with (go_at_call 85; refine HA.out.mono ?_; rintro e w1 ⟨rfl, HQ⟩)
    go_ret
    exact ⟨ret_bool HE.out.1.symm, Lib.hid (by rw [HE.out.2]; exact HQ.out)⟩
end Go.Proofs.Ytbonponclcehiaa.Dev
/-
  THE REFERENCE's DEVICE: Words.
-/
namespace Go.Proofs.Ytbonponclcehiaa.Dev
open Go.ChangeShapes Go.WideShapes Go.ChangeAt Go.RowKit Go.Proofs.Ytbonponclcehiaa.Mem Go.Proofs.Ytbonponclcehiaa.Args Go.Proofs.Ytbonponclcehiaa.Own
/-- A line by value. -/
def lineV (b : Nat → Nat) (C : Option Addr) (n c : Nat) (gone : Int) : Value := .agg #[.int .u64 (b 0 : Int), .int .u64 (b 1 : Int), .int .u64 (b 2 : Int), .int .u64 (b 3 : Int), .int .u64 (b 4 : Int), .int .u64 (b 5 : Int), .int .u64 (b 6 : Int), .int .u64 (b 7 : Int), .slice C n c, .int .i64 gone]
set_option maxRecDepth 100000 in
theorem words_any (w : World) (B k n cap : Nat) (C : Option Addr) (gone : Int) (b : Nat → Nat) (hs : List (Nat × Nat)) (hl : hs.length = n) (hn : n ≤ cap) (hcap : cap ≤ maxLen) (hk : k ≤ n)
    (hr : 0 < n → ∃ g, C = some ⟨g, 0, none⟩ ∧ g < B ∧ ∀ o, o < n * 2 → w.cell? ⟨g, o, none⟩ = (hcells hs)[o]?) (hB : B ≤ w.heap.size) (hw : ∀ p ∈ hs, p.1 < 18446744073709551616 ∧ p.2 < 18446744073709551616) :
    Calls Try.prog 80 #[lineV b C n cap gone, .int .i64 (k : Int)] w fun e w' => e = .returned (words8 (applyW b (hs.take k))) ∧ Below w.heap.size w w' := by
  have HR := Lib.hid hr
  have HL := Lib.hid hl
  have HW := Lib.hid hw
  unfold maxLen at hcap
  clear hr hl hw
  unfold lineV
  go_enter Try.func80, Try.ntmps80
  go_wp2
  go_loopw [6] (fun i wr => ∃ j : Nat, j ≤ k ∧ i = .int .i64 j ∧ Hid (Blk wr (w.heap.size + 2) 82 8 (wordG (applyW b (hs.take j))) ∧ Blk wr (w.heap.size + 1) 82 8 (wordG fun _ => 0) ∧ wr.cell? ⟨w.heap.size, 8, none⟩ = some (.slice C n cap) ∧ Below w.heap.size w wr)) (fun i _ => k - (intOf i).toNat)
  case atStart =>
    refine ⟨0, by omega, rfl, Lib.hid ⟨words_blk _ _ b _ (by simp), ?_, ?_, (((Below.refl _ _).alloc (Nat.le_refl _) _).alloc (by simp) _).alloc (by simp; omega) _⟩⟩
    · refine Blk.alloc ?_ _
      refine words_blk _ _ (fun _ => 0) _ ?_
      simp
    · refine (World.cell?_alloc_past _ w.heap.size 8 ?_).trans ((World.cell?_alloc_past _ w.heap.size 8 ?_).trans (new_cell w _ _ 8 rfl))
      · simp; omega
      · simp
  case round =>
    obtain ⟨j, hj, rfl, HO⟩ := hrel
    by_cases hjk : j < k
    · have hjl : j < hs.length := by have := HL.out; omega
      obtain ⟨g, rfl, hgB, hcs⟩ := HR.out (by omega)
      have e0 := (HO.out.2.2.2.cell (p := ⟨g, j * 2, none⟩) (by show g < _; omega)).trans (hcs (j * 2) (by omega))
      have e1 := (HO.out.2.2.2.cell (p := ⟨g, j * 2 + 1, none⟩) (by show g < _; omega)).trans (hcs (j * 2 + 1) (by omega))
      obtain ⟨f0, f1⟩ := hcells_at hs j hjl
      rw [f0] at e0
      rw [f1] at e1
      have hwj := HW.out _ (List.getElem_mem hjl)
      have HT := Lib.hid (show hs.take (j + 1) = hs.take j ++ [hs[j]] from List.take_succ_eq_append_getElem hjl)
      generalize hs[j] = pr at *
      obtain ⟨o, x⟩ := pr
      simp only at e0 e1 hwj
      obtain ⟨ho, hx⟩ := hwj
      obtain ⟨p, hp⟩ : ∃ p, o / 8 % 8 = p := ⟨_, rfl⟩
      obtain ⟨r, hrr⟩ : ∃ r, o % 64 = r := ⟨_, rfl⟩
      have hp8 : p < 8 := by omega
      have hr64 : r < 64 := by omega
      have hrp : r / 8 = p := by omega
      have hcb : wr.cell? ⟨w.heap.size, 8, none⟩ = some (.slice (some ⟨g, 0, none⟩) n cap) := HO.out.2.2.1
      have HX := Lib.hid (show Blk (wr.drew.setCell ⟨w.heap.size + 2, p, none⟩ (.int .u64 (x : Int))) (w.heap.size + 2) 82 8 (wordG (applyW b (hs.take (j + 1)))) ∧ Blk (wr.drew.setCell ⟨w.heap.size + 2, p, none⟩ (.int .u64 (x : Int))) (w.heap.size + 1) 82 8 (wordG fun _ => 0) ∧ (wr.drew.setCell ⟨w.heap.size + 2, p, none⟩ (.int .u64 (x : Int))).cell? ⟨w.heap.size, 8, none⟩ = some (.slice (some ⟨g, 0, none⟩) n cap) ∧ Below w.heap.size w (wr.drew.setCell ⟨w.heap.size + 2, p, none⟩ (.int .u64 (x : Int))) from by
        refine ⟨?_, HO.out.2.1.drew.setOther (by simp) _, ?_, HO.out.2.2.2.drew.setCell (by simp) _⟩
        · rw [HT.out, applyW_snoc]
          have := HO.out.1.drew.set p (.int .u64 (x : Int))
          rw [wordG_upd] at this
          simp only [hp]
          exact this
        · rw [World.cell?_setCell_other _ _ _ _ (by simp)]
          exact hcb)
      have hc1 : wr.drew.cell? ⟨w.heap.size + 2, p, none⟩ = some (wordG (applyW b (hs.take j)) p) := HO.out.1.cell hp8
      have hf1 : wr.drew.frozen? ⟨w.heap.size + 2, p, none⟩ = false := HO.out.1.frozen _
      have hcb2 : wr.drew.cell? ⟨w.heap.size, 8, none⟩ = some (.slice (some ⟨g, 0, none⟩) n cap) := hcb
      have e02 : wr.drew.cell? ⟨g, j * 2, none⟩ = some (.int .u64 (o : Int)) := e0
      have e12 : wr.drew.cell? ⟨g, j * 2 + 1, none⟩ = some (.int .u64 (x : Int)) := e1
      have hmo : (o : Int) % 64 = (r : Int) := by omega
      have hto : (o : Int).tmod 64 = (r : Int) := by rw [Int.tmod_eq_emod_of_nonneg (by omega)]; exact hmo
      have hdr : (r : Int) / 8 = (p : Int) := by omega
      have htr : (r : Int).tdiv 8 = (p : Int) := by rw [Int.tdiv_eq_ediv_of_nonneg (by omega)]; exact hdr
      have hwp : IntKind.i64.wrap (p : Int) = (p : Int) := IntWalk.i64_in _ ⟨by omega, by omega⟩
      have hwu : IntKind.u64.wrap (p : Int) = (p : Int) := IntWalk.u64_in _ ⟨by omega, by omega⟩
      have hwr : IntKind.u64.wrap (r : Int) = (r : Int) := IntWalk.u64_in _ ⟨by omega, by omega⟩
      have hp0 : (0 : Int) ≤ (p : Int) := by omega
      have hp88 : (p : Int) < 8 := by omega
      have hjn : (j : Int) < (n : Int) := by omega
      have hjnn : j < n := by omega
      have hj0 : (0 : Int) ≤ (j : Int) := by omega
      have hwj : IntKind.i64.wrap (j : Int) = (j : Int) := IntWalk.i64_in _ ⟨by omega, by omega⟩
      have hwsz : w.heap.size < wr.heap.size := World.block_lt_of_cell? wr _ hcb
      clear hp hrr hrp f0 f1 HT hcs
      go_wp2_with fail
      go_still_tail 15, (by kernel_rfl)
      try refine wpStill_nil ?_
      change wpList _ _ _ _ _ wr.drew
      clear e0 e1 hcb hmo hto hdr htr
      go_wp2
      go_roundw
      case rel => exact ⟨j + 1, by omega, by go_num, HX⟩
      case measure => simp [intOf]; omega
    · have hkj : j = k := by omega
      subst hkj
      obtain ⟨F, hF⟩ : ∃ F, applyW b (hs.take j) = F := ⟨_, rfl⟩
      rw [hF] at HO
      have HF := Lib.hid hF
      clear hF
      have h0 := HO.out.1.cell (o := 0) (by decide)
      have r0 := HO.out.2.1.cell (o := 0) (by decide)
      have z0 := HO.out.2.1.frozen 0
      have h1 := HO.out.1.cell (o := 1) (by decide)
      have r1 := HO.out.2.1.cell (o := 1) (by decide)
      have z1 := HO.out.2.1.frozen 1
      have h2 := HO.out.1.cell (o := 2) (by decide)
      have r2 := HO.out.2.1.cell (o := 2) (by decide)
      have z2 := HO.out.2.1.frozen 2
      have h3 := HO.out.1.cell (o := 3) (by decide)
      have r3 := HO.out.2.1.cell (o := 3) (by decide)
      have z3 := HO.out.2.1.frozen 3
      have h4 := HO.out.1.cell (o := 4) (by decide)
      have r4 := HO.out.2.1.cell (o := 4) (by decide)
      have z4 := HO.out.2.1.frozen 4
      have h5 := HO.out.1.cell (o := 5) (by decide)
      have r5 := HO.out.2.1.cell (o := 5) (by decide)
      have z5 := HO.out.2.1.frozen 5
      have h6 := HO.out.1.cell (o := 6) (by decide)
      have r6 := HO.out.2.1.cell (o := 6) (by decide)
      have z6 := HO.out.2.1.frozen 6
      have h7 := HO.out.1.cell (o := 7) (by decide)
      have r7 := HO.out.2.1.cell (o := 7) (by decide)
      have z7 := HO.out.2.1.frozen 7
      unfold wordG at h0 h1 h2 h3 h4 h5 h6 h7 r0 r1 r2 r3 r4 r5 r6 r7
      go_wp2
      refine bodyPost_ret (v := words8 F) (by simp [results, Try.results80, go_sem, words8, wordG, r0, r1, r2, r3, r4, r5, r6, r7]) rfl ⟨by rw [HF.out], ?_⟩
      have hB := HO.out.2.2.2
      exact ((((((((hB.setCell (Nat.le_succ _) _).setCell (Nat.le_succ _) _).setCell (Nat.le_succ _) _).setCell (Nat.le_succ _) _).setCell (Nat.le_succ _) _).setCell (Nat.le_succ _) _).setCell (Nat.le_succ _) _).setCell (Nat.le_succ _) _)
end Go.Proofs.Ytbonponclcehiaa.Dev
/-
  THE REFERENCE's DEVICE: value, Load, put, Store, CAS.
-/
namespace Go.Proofs.Ytbonponclcehiaa.Dev
open Go.ChangeShapes Go.WideShapes Go.ChangeAt Go.RowKit Go.Proofs.Ytbonponclcehiaa.Mem Go.Proofs.Ytbonponclcehiaa.Args Go.Proofs.Ytbonponclcehiaa.Own
theorem rl_pers (A : RAdr) (S : St) (k j : Nat) (hj : j < 8) : rlinesG A S (k * 10 + j) = wordG (S.pers k) j := by
  unfold rlinesG
  rw [if_pos (by omega), show (k * 10 + j) / 10 = k by omega, show (k * 10 + j) % 10 = j by omega]
theorem rl_hist (A : RAdr) (S : St) (k : Nat) : rlinesG A S (k * 10 + 8) = A.hv k := by
  unfold rlinesG
  rw [if_neg (by omega), if_pos (by omega), show (k * 10 + 8) / 10 = k by omega]
theorem rl_gone (A : RAdr) (S : St) (k : Nat) : rlinesG A S (k * 10 + 9) = .int .i64 (S.gone k : Int) := by
  unfold rlinesG
  rw [if_neg (by omega), if_neg (by omega), show (k * 10 + 9) / 10 = k by omega]
/-- The cells of line k, and its history's form. -/
theorem IsRef.line {w : World} {base : Nat} {A : RAdr} {S : St} (h : IsRef w base A S) {k : Nat} (hk : k < S.n) :
    ∃ C c, A.hv k = .slice C (S.hist k).length c ∧ (S.hist k).length ≤ c ∧ c ≤ maxLen ∧ (∀ j, j < 8 → w.cell? ⟨A.lb, k * 10 + j, none⟩ = some (.int .u64 (S.pers k j : Int))) ∧ w.cell? ⟨A.lb, k * 10 + 8, none⟩ = some (.slice C (S.hist k).length c) ∧
      w.cell? ⟨A.lb, k * 10 + 9, none⟩ = some (.int .i64 (S.gone k : Int)) ∧ (0 < (S.hist k).length → ∃ g, C = some ⟨g, 0, none⟩ ∧ g < w.heap.size ∧ ∀ o, o < (S.hist k).length * 2 → w.cell? ⟨g, o, none⟩ = (hcells (S.hist k))[o]?) := by
  obtain ⟨C, c, e, h1, h2, h3, h4⟩ := (h.hist k hk).1.form
  refine ⟨C, c, e, h1, h2, fun j hj => ?_, ?_, ?_, fun h0 => ?_⟩
  · rw [h.lines.cell (by omega), rl_pers _ _ _ _ hj]; rfl
  · rw [h.lines.cell (by omega), rl_hist, e]
  · rw [h.lines.cell (by omega), rl_gone]
  · rcases hC : C with _ | ad
    · have := h3 hC; omega
    · have hob : (A.hv k).ownBlock = some ad.block := by rw [e, hC]; rfl
      obtain ⟨h5, h6⟩ := h4 ad.block hob
      exact ⟨ad.block, by rw [← hC]; exact h5, ((h.hist k hk).1.lt _ hob).2, h6⟩
theorem ixr0 (a b c d e f g h : Int) (w : World) : (Instr.index 82 (.agg #[.int .u64 a, .int .u64 b, .int .u64 c, .int .u64 d, .int .u64 e, .int .u64 f, .int .u64 g, .int .u64 h]) (.int .u64 0)).run Try.prog w = .ok (.int .u64 a) w := by kernel_rfl
theorem ixr1 (a b c d e f g h : Int) (w : World) : (Instr.index 82 (.agg #[.int .u64 a, .int .u64 b, .int .u64 c, .int .u64 d, .int .u64 e, .int .u64 f, .int .u64 g, .int .u64 h]) (.int .u64 1)).run Try.prog w = .ok (.int .u64 b) w := by kernel_rfl
theorem ixr2 (a b c d e f g h : Int) (w : World) : (Instr.index 82 (.agg #[.int .u64 a, .int .u64 b, .int .u64 c, .int .u64 d, .int .u64 e, .int .u64 f, .int .u64 g, .int .u64 h]) (.int .u64 2)).run Try.prog w = .ok (.int .u64 c) w := by kernel_rfl
theorem ixr3 (a b c d e f g h : Int) (w : World) : (Instr.index 82 (.agg #[.int .u64 a, .int .u64 b, .int .u64 c, .int .u64 d, .int .u64 e, .int .u64 f, .int .u64 g, .int .u64 h]) (.int .u64 3)).run Try.prog w = .ok (.int .u64 d) w := by kernel_rfl
theorem ixr4 (a b c d e f g h : Int) (w : World) : (Instr.index 82 (.agg #[.int .u64 a, .int .u64 b, .int .u64 c, .int .u64 d, .int .u64 e, .int .u64 f, .int .u64 g, .int .u64 h]) (.int .u64 4)).run Try.prog w = .ok (.int .u64 e) w := by kernel_rfl
theorem ixr5 (a b c d e f g h : Int) (w : World) : (Instr.index 82 (.agg #[.int .u64 a, .int .u64 b, .int .u64 c, .int .u64 d, .int .u64 e, .int .u64 f, .int .u64 g, .int .u64 h]) (.int .u64 5)).run Try.prog w = .ok (.int .u64 f) w := by kernel_rfl
theorem ixr6 (a b c d e f g h : Int) (w : World) : (Instr.index 82 (.agg #[.int .u64 a, .int .u64 b, .int .u64 c, .int .u64 d, .int .u64 e, .int .u64 f, .int .u64 g, .int .u64 h]) (.int .u64 6)).run Try.prog w = .ok (.int .u64 g) w := by kernel_rfl
theorem ixr7 (a b c d e f g h : Int) (w : World) : (Instr.index 82 (.agg #[.int .u64 a, .int .u64 b, .int .u64 c, .int .u64 d, .int .u64 e, .int .u64 f, .int .u64 g, .int .u64 h]) (.int .u64 7)).run Try.prog w = .ok (.int .u64 h) w := by kernel_rfl
theorem index8r (f : Nat → Nat) (j : Nat) (hj : j < 8) (w : World) : (Instr.index 82 (.agg #[.int .u64 (f 0 : Int), .int .u64 (f 1 : Int), .int .u64 (f 2 : Int), .int .u64 (f 3 : Int), .int .u64 (f 4 : Int), .int .u64 (f 5 : Int), .int .u64 (f 6 : Int), .int .u64 (f 7 : Int)]) (.int .u64 (j : Int))).run Try.prog w = .ok (.int .u64 (f j : Int)) w := by
  have h : j = 0 ∨ j = 1 ∨ j = 2 ∨ j = 3 ∨ j = 4 ∨ j = 5 ∨ j = 6 ∨ j = 7 := by omega
  rcases h with rfl | rfl | rfl | rfl | rfl | rfl | rfl | rfl
  · exact ixr0 (f 0) (f 1) (f 2) (f 3) (f 4) (f 5) (f 6) (f 7) w
  · exact ixr1 (f 0) (f 1) (f 2) (f 3) (f 4) (f 5) (f 6) (f 7) w
  · exact ixr2 (f 0) (f 1) (f 2) (f 3) (f 4) (f 5) (f 6) (f 7) w
  · exact ixr3 (f 0) (f 1) (f 2) (f 3) (f 4) (f 5) (f 6) (f 7) w
  · exact ixr4 (f 0) (f 1) (f 2) (f 3) (f 4) (f 5) (f 6) (f 7) w
  · exact ixr5 (f 0) (f 1) (f 2) (f 3) (f 4) (f 5) (f 6) (f 7) w
  · exact ixr6 (f 0) (f 1) (f 2) (f 3) (f 4) (f 5) (f 6) (f 7) w
  · exact ixr7 (f 0) (f 1) (f 2) (f 3) (f 4) (f 5) (f 6) (f 7) w
set_option maxRecDepth 100000 in
theorem rvalue_any (w : World) (base M : Nat) (A : RAdr) (S : St) (o : Nat) (h : IsRef w base A S) (hS : S.Ok M) (hM : M ≤ 1000000) (hw : S.isW o = true) (ho : o < 18446744073709551616) :
    Calls Try.prog 86 #[.pointer (some ⟨A.d, 0, none⟩), .int .u64 (o : Int)] w fun e w' => e = .returned (.int .u64 (S.val o : Int)) ∧ Below w.heap.size w w' := by
  obtain ⟨hk, h8⟩ := St.isW_lt hw
  have c0 := RB.c0 h.dev
  obtain ⟨C, c, _, h1, h2, hp, hh, hg, hr⟩ := h.line hk
  obtain ⟨k, hkk⟩ : ∃ k, o / 64 = k := ⟨_, rfl⟩
  obtain ⟨p, hpp⟩ : ∃ p, o / 8 % 8 = p := ⟨_, rfl⟩
  obtain ⟨r, hrr⟩ : ∃ r, o % 64 = r := ⟨_, rfl⟩
  have HV : Hid (S.val o = applyW (S.pers k) ((S.hist k).take (S.hist k).length) p) := by
    unfold Hid St.val St.cur
    rw [hkk, hpp, List.take_length]
  rw [hkk] at hk hp hh hg hr h1
  have hlt := h.lines.lt
  have hsum := hS.sum k
  have HWD := fun (w2 : World) (hb : Below w.heap.size w w2) => Lib.hid (words_any w2 w.heap.size (S.hist k).length (S.hist k).length c C (S.gone k : Int) (S.pers k) (S.hist k) rfl h1 h2 (Nat.le_refl _) (fun h0 => by
    obtain ⟨g, e1, e2, e3⟩ := hr h0
    exact ⟨g, e1, e2, fun o ho => (hb.cell (p := ⟨g, o, none⟩) e2).trans (e3 o ho)⟩) hb.size (hS.fine k))
  have hp8 : p < 8 := by omega
  have hd : (o : Int) / 64 = (k : Int) := by omega
  have hmo : (o : Int) % 64 = (r : Int) := by omega
  have hto : (o : Int).tmod 64 = (r : Int) := by rw [Int.tmod_eq_emod_of_nonneg (by omega)]; exact hmo
  have hdr : (r : Int) / 8 = (p : Int) := by omega
  have htr : (r : Int).tdiv 8 = (p : Int) := by rw [Int.tdiv_eq_ediv_of_nonneg (by omega)]; exact hdr
  have hn := hS.n1
  have hkn : (k : Int) < (S.n : Int) := by omega
  have h0 := hp 0 (by decide)
  have h11 := hp 1 (by decide)
  have h22 := hp 2 (by decide)
  have h33 := hp 3 (by decide)
  have h44 := hp 4 (by decide)
  have h55 := hp 5 (by decide)
  have h66 := hp 6 (by decide)
  have h77 := hp 7 (by decide)
  rw [Nat.add_zero] at h0
  obtain ⟨F, hF⟩ : ∃ F, applyW (S.pers k) ((S.hist k).take (S.hist k).length) = F := ⟨_, rfl⟩
  rw [hF] at HWD HV
  have HX := index8r F p hp8
  clear h hS hp hr hkk hpp hrr hF
  generalize S.pers k = b at *
  go_enter Try.func86, Try.ntmps86
  go_wp2_with (go_at_call 80; refine ((HWD _ ((Below.refl _ _).alloc (Nat.le_refl _) _)).out).mono ?_; rintro e w2 ⟨he, hb⟩; simp only [words8, wordG] at he; subst he; have HB := Lib.hid hb; clear hb)
  go_ret
  exact ⟨ret_int (by rw [HV.out]), ((Below.refl _ _).alloc (Nat.le_refl _) _).trans (HB.out.mono (by simp))⟩
end Go.Proofs.Ytbonponclcehiaa.Dev
/-
  THE REFERENCE's DEVICE: append of stores; put.
-/
namespace Go.Proofs.Ytbonponclcehiaa.Dev
open Go.ChangeShapes Go.WideShapes Go.ChangeAt Go.RowKit Go.Proofs.Ytbonponclcehiaa.Mem Go.Proofs.Ytbonponclcehiaa.Args Go.Proofs.Ytbonponclcehiaa.Own
section
variable {P : Program}
theorem run_app2 {w : World} {base bytes m c n : Nat} {t ty e : TypeId} {i : TypeInfo} {z : Value} {v : Value} {xs news : List Value} {A : Option Addr} (ht : P.underlying t = some (.slice e)) (hi : P.info? e = some i) (hz : i.zero = some z)
    (hsize : i.size = 2) (hby : i.bytes = bytes) (hzs : z.cells.size = 2) (hown : w.ownsRow base e 2 v n xs) (hl : news.length = m * 2) (hr : 0 < m → ∃ ad, A = some ad ∧ ∀ j u, news[j]? = some u → w.cell? (ad.add j) = some u) (h1 : ∀ u ∈ news, u.oneCell' = true)
    (h63 : n + m ≤ maxLen) (hbytes : (n + m) * bytes ≤ 140737488355328) (hbase : base ≤ w.heap.size) :
    ∃ v' w', (Builtin.append_ #[t, t] ty #[v, .slice A m c]).run P w = .ok v' w' ∧ w'.ownsRow base e 2 v' (n + m) (xs ++ news) ∧ w.grownBy w' v.ownBlock ∧ (v'.ownBlock = v.ownBlock ∨ v'.ownBlock = some w.heap.size) := by
  rcases A with _ | ad
  · have hm : m = 0 := by
      rcases Nat.eq_zero_or_pos m with h | h
      · exact h
      · obtain ⟨ad, h, _⟩ := hr h; cases h
    subst hm
    have h0 : news = [] := List.length_eq_zero_iff.1 (by simpa using hl)
    subst h0
    refine ⟨v, w, ?_, by simpa using hown, World.grownBy.refl w _, .inl rfl⟩
    rcases hown.2 with ⟨rfl, _⟩ | ⟨g, cap, cur, rfl, _, _, hnc, _⟩
    · simp [Builtin.append_, run_underlying ht, sizeOf, typeInfo, hi, Builtin.lenOf, Builtin.firstCells]
    · simp [Builtin.append_, run_underlying ht, sizeOf, typeInfo, hi, Builtin.lenOf, Builtin.firstCells, hnc, storeCells]
  · have hcells : ∀ j u, news[j]? = some u → w.cell? (ad.add j) = some u := by
      rcases Nat.eq_zero_or_pos m with h | h
      · subst h
        have h0 : news = [] := List.length_eq_zero_iff.1 (by simpa using hl)
        subst h0
        intro j u hu; simp at hu
      · obtain ⟨ad', e1, e2⟩ := hr h
        cases e1; exact e2
    obtain ⟨v', w', hrun, h2, h3, _, h5⟩ := run_append_own_at (P := P) w base t ty e i z 2 bytes ht hi hz hsize hby hzs (by omega) v n xs hown ad m c news hl hcells h1 h63 hbytes hbase
    exact ⟨v', w', hrun, h2, h3, h5⟩
theorem wpList_app2 {ops : Array Oper} {rest : List Oper} {o : Oper} {a : Act} {Q : Exit → Act → World → Prop} {w : World} (hgd : Region.wanted o (yielded ops a.tmps) = true) (s x : Operand) (t : TypeId)
    (ho : o.op = .call { callee := .builtin .append, args := #[s, x], argTypes := #[t, t] })
    {base bytes m c n : Nat} {e : TypeId} {i : TypeInfo} {z : Value} {v : Value} {xs news : List Value} {A : Option Addr} (ht : P.underlying t = some (.slice e)) (hi : P.info? e = some i) (hz : i.zero = some z)
    (hsize : i.size = 2) (hby : i.bytes = bytes) (hzs : z.cells.size = 2) (hs : a.eval s = v) (hown : w.ownsRow base e 2 v n xs) (hx : a.eval x = .slice A m c) (hl : news.length = m * 2) (hr : 0 < m → ∃ ad, A = some ad ∧ ∀ j u, news[j]? = some u → w.cell? (ad.add j) = some u) (h1 : ∀ u ∈ news, u.oneCell' = true)
    (h63 : n + m ≤ maxLen) (hbytes : (n + m) * bytes ≤ 140737488355328) (hbase : base ≤ w.heap.size)
    (h : ∀ v' w', w'.ownsRow base e 2 v' (n + m) (xs ++ news) → w.grownBy w' v.ownBlock → (v'.ownBlock = v.ownBlock ∨ v'.ownBlock = some w.heap.size) → wpList P ops Q rest (a.put o.dst v') w') : wpList P ops Q (o :: rest) a w := by
  refine wpList_step fun K hK => ?_
  rw [if_pos hgd]
  obtain ⟨v', w', hrun, h2, h3, h4⟩ := run_app2 (P := P) (w := w) (base := base) (ty := o.type) (c := c) ht hi hz hsize hby hzs hown hl hr h1 h63 hbytes hbase
  unfold Oper.wp execOp
  simp only [ho, resolve, invoke, builtin, Sem.run_bind, Sem.run_pure, Result.andThen_ok, List.map_toArray, List.map_cons, List.map_nil, hs, hx, hrun]
  exact hK _ _ (h v' w' h2 h3 h4)
end
theorem infoRWrite : (Try.prog.info? 127).map (fun i => (i.zero, i.size, i.bytes)) = some (some (.agg #[.int .u64 0, .int .u64 0]), 2, 16) := by kernel_rfl
theorem addr0 (g j : Nat) : (⟨g, 0, none⟩ : Addr).add j = ⟨g, j, none⟩ := by unfold Addr.add; split <;> simp_all
/-- What a row's cells are for the append laws. -/
theorem src_of {w w' : World} {g n : Nat} {xs : List Value} (hl : xs.length = n * 2) (hc : ∀ o, o < n * 2 → w.cell? ⟨g, o, none⟩ = xs[o]?) (hb : w'.heap[g]? = w.heap[g]?) : ∀ j u, xs[j]? = some u → w'.cell? ((⟨g, 0, none⟩ : Addr).add j) = some u := fun j u hu => by
  have hj : j < n * 2 := by rw [← hl]; exact (List.getElem?_eq_some_iff.1 hu).1
  rw [addr0, World.cell?_of_block (w := w) hb, hc j hj, hu]
/-- One line's history was written anew. -/
theorem IsRef.histSet {w w' : World} {base : Nat} {A : RAdr} {S S' : St} (h : IsRef w base A S) {l : Nat} (hl : l < S.n) (hn : S'.n = S.n) (hnt : S'.notes = S.notes) (her : S'.err = S.err) (hex : S'.ex = S.ex) (hof : S'.off = S.off) (hle : S'.left = S.left)
    (hot : ∀ i, i ≠ l → S'.pers i = S.pers i ∧ S'.hist i = S.hist i ∧ S'.gone i = S.gone i) (hv' : Value) (g' : Nat → Value) (hB : Blk w' A.lb 85 (S.n * 10) g') (hg : ∀ o, (o < l * 10 ∨ l * 10 + 10 ≤ o) → g' o = rlinesG A S o)
    (h1 : ∀ j, j < 8 → g' (l * 10 + j) = wordG (S'.pers l) j) (h3 : g' (l * 10 + 8) = hv') (h4 : g' (l * 10 + 9) = .int .i64 (S'.gone l : Int)) (hh : Row2 w' base 127 hv' (S'.hist l).length (hcells (S'.hist l)))
    (ho : Only (fun b => b = A.lb) w w') (hfr : ∀ b, hv'.ownBlock = some b → w.heap.size ≤ b) : RStep w w' base A S' := by
  refine ⟨{ A with hv := fun i => if i = l then hv' else A.hv i }, rfl, rfl, ⟨?_, ?_, fun i hi => ?_, fun t ht => ?_, h.dl, h.bd, h.bl⟩, ho.mono fun b hb => .inr hb⟩
  · refine (ho.blk h.dev h.dl).ext fun o _ => ?_
    unfold refG
    simp only [hn, her, hex, hof, hle]
  · rw [hn]
    refine hB.ext fun o ho' => ?_
    by_cases e : o / 10 = l
    · have e2 : o = l * 10 + o % 10 := by omega
      unfold rlinesG
      simp only
      by_cases k1 : o % 10 < 8
      · rw [if_pos k1, e, e2, h1 _ k1, show (l * 10 + o % 10) % 10 = o % 10 by omega]
      · by_cases k2 : o % 10 = 8
        · rw [if_neg k1, if_pos k2, e, if_pos rfl, show g' o = g' (l * 10 + 8) by congr 1; omega, h3]
        · rw [if_neg k1, if_neg k2, e, show g' o = g' (l * 10 + 9) by congr 1; omega, h4]
    · rw [hg o (by omega)]
      obtain ⟨a1, a2, a3⟩ := hot _ e
      unfold rlinesG
      simp only
      rw [a1, a3, if_neg e]
  · rw [hn] at hi
    by_cases e : i = l
    · subst e
      simp only [if_true]
      have f1 := h.dev.lt
      have f2 := h.lines.lt
      exact ⟨hh, fun e => by have := hfr _ e; omega, fun e => by have := hfr _ e; omega⟩
    · simp only [if_neg e]
      rw [(hot i e).2.1]
      exact ⟨(h.hist i hi).1.only ho (fun g hg e => (h.hist i hi).2.2 (by rw [hg, e])), (h.hist i hi).2⟩
  · rw [hnt]
    exact ⟨(h.notes t ht).1.only ho (fun g hg e => (h.notes t ht).2.2 (by rw [hg, e])), (h.notes t ht).2⟩
set_option maxRecDepth 100000 in
set_option maxHeartbeats 400000 in
theorem rput_any (w : World) (base M : Nat) (A : RAdr) (S : St) (o x : Nat) (h : IsRef w base A S) (hS : S.Ok M) (hM : M ≤ 1000000) (hw : S.isW o = true) (ho : o < 18446744073709551616) :
    Calls Try.prog 78 #[.pointer (some ⟨A.d, 0, none⟩), .int .u64 (o : Int), .int .u64 (x : Int)] w fun e w' => e = .returned (.tuple #[]) ∧ Hid (RStep w w' base A (S.put o x)) := by
  obtain ⟨i0, hi, hz0, hz1, hz2⟩ := info_parts infoRWrite
  have HI := Lib.hid hi
  have HZ0 := Lib.hid hz0
  have HZ1 := Lib.hid hz1
  have HZ2 := Lib.hid hz2
  clear hi hz0 hz1 hz2
  obtain ⟨hk, h8⟩ := St.isW_lt hw
  have c0 := RB.c0 h.dev
  obtain ⟨k, hkk⟩ : ∃ k, o / 64 = k := ⟨_, rfl⟩
  rw [hkk] at hk
  obtain ⟨C, c, hCv, h1, h2, hp, hh, hg, hr⟩ := h.line hk
  have hlt := h.lines.lt
  have hsum := hS.sum k
  have hd : (o : Int) / 64 = (k : Int) := by omega
  have hn := hS.n1
  have hkn : (k : Int) < (S.n : Int) := by omega
  have HD := Lib.hid h
  have HR := Lib.hid hr
  have HK := Lib.hid hkk
  obtain ⟨m, hm⟩ : ∃ m, (S.hist k).length = m := ⟨_, rfl⟩
  rw [hm] at h1 hh HR hsum
  have HM := Lib.hid hm
  have hbw := Nat.le_trans h.bl (Nat.le_of_lt hlt)
  have z8 := h.lines.frozen (k * 10 + 8)
  clear h hS hp hr hkk hm hCv hg
  go_enter Try.func78, Try.ntmps78
  go_wp2_with (first
    | (at_builtin; refine wpList_app2 (by simp [Region.wanted, yielded]) (.tmp 15) (.tmp 19) 83 rfl (base := w.heap.size) (n := 0) (xs := []) (v := .slice (some ⟨w.heap.size, 0, none⟩) 0 0) (A := C) (m := m) (c := c) (news := hcells (S.hist k)) Try.underlying83 HI.out HZ0.out HZ1.out HZ2.out rfl rfl (World.ownsRow_made w #[] 0 (Nat.le_refl _) (by simp [maxLen]) rfl) rfl (by rw [hcells_len, HM.out]) (fun h0 => ⟨⟨(HR.out h0).choose, 0, none⟩, (HR.out h0).choose_spec.1, src_of (by rw [hcells_len, HM.out]) (HR.out h0).choose_spec.2.2 (Below.heap_alloc _ _ _ (HR.out h0).choose_spec.2.1)⟩) (hcells_one _) (by simp [maxLen]; omega) (by omega) (by simp) ?_; intro v1 w1 hown1 hgr1 hob1; rw [Nat.zero_add, List.nil_append] at hown1; have HO1 := Lib.hid hown1; have HG1 := Lib.hid hgr1; have HB1 := Lib.hid hob1; have hs1 : w.heap.size < w1.heap.size := (by have := hgr1.size; simp at this; omega); clear hown1 hgr1 hob1)
    | (at_builtin; refine wpList_append_lies _ rfl _ _ 83 rfl w.heap.size 127 i0 (.agg #[.int .u64 0, .int .u64 0]) 2 16 Try.underlying83 HI.out HZ0.out HZ1.out HZ2.out rfl (by decide) v1 m (hcells (S.hist k)) rfl (World.ownsRow.alloc HO1.out _) ⟨w1.heap.size, 0, none⟩ 1 1 [.int .u64 (o : Int), .int .u64 (x : Int)] rfl rfl (new_cells _ _ _ _ rfl _ rfl) (write_one o x) (by decide) (by simp [maxLen]; omega) (by omega) (by simp; omega) (w1.heap.size + 1) (by simp) ?_; intro gb cap w2 hown2 hgr2 hob2 hlt2; have O2 : Only (fun _ => False) w w2 := (((Only.refl (fun _ => False) w).alloc _).trans' (G := fun b => w.heap.size ≤ b) ((Only.ofGrown HG1.out (fun k hk => .inl (by cases hk; exact Nat.le_refl _))).alloc _) (fun b hb => .inr hb)).trans' (G := fun b => w.heap.size ≤ b) (Only.ofGrown hgr2 (fun k hk => .inl (World.ownsRow.lt HO1.out k hk).1)) (fun b hb => .inr hb); have BL := O2.blk HD.out.lines (fun f => f); have c8 := BL.cell (o := k * 10 + 8) (by omega); have z82 := BL.frozen (k * 10 + 8); have HO2 := Lib.hid hown2; have HO22 := Lib.hid O2; have HBL := Lib.hid BL; have HL2 := Lib.hid hlt2; have HOB2 := Lib.hid hob2; clear hown2 hgr2 hob2 hlt2 O2 BL))
  go_end0
  have hgb := World.ownsRow.lt HO2.out gb rfl
  have hkS : ∀ i, i ≠ k → (S.put o x).hist i = S.hist i := fun i hi => by
    show (if i = o / 64 then _ else _) = _
    rw [if_neg (by rw [HK.out]; exact hi)]
  have hkk : (S.put o x).hist k = S.hist k ++ [(o, x)] := by
    show (if k = o / 64 then _ else _) = _
    rw [if_pos HK.out.symm]
  refine ⟨rfl, Lib.hid (HD.out.histSet hk rfl rfl rfl rfl rfl rfl (fun i hi => ⟨rfl, hkS i hi, rfl⟩) (.slice (some ⟨gb, 0, none⟩) (m + 1) cap) _ (HBL.out.set (k * 10 + 8) _) (fun o' ho' => ?_) (fun j hj => ?_) ?_ ?_ ?_ ?_ (fun b hb => ?_))⟩
  · rw [upd_other _ _ (by omega)]
  · rw [upd_other _ _ (by omega), rl_pers _ _ _ _ hj]; rfl
  · rw [upd_same]
  · rw [upd_other _ _ (by omega), rl_gone]; rfl
  · rw [hkk, hcells_append, List.length_append, HM.out]
    refine Row2.of_block (w := w2) (Row2.mono ?_ hbw) (fun g hg => ?_)
    · exact HO2.out
    · rw [heap_setCell_other]
      cases hg
      show gb ≠ A.lb
      omega
  · exact (HO22.out.mono (fun _ f => f.elim)).set _ _ (.inl rfl)
  · cases hb; exact hgb.1
end Go.Proofs.Ytbonponclcehiaa.Dev
/-
  THE REFERENCE's DEVICE: Load, Store, CAS.
-/
namespace Go.Proofs.Ytbonponclcehiaa.Dev
open Go.ChangeShapes Go.WideShapes Go.ChangeAt Go.RowKit Go.Proofs.Ytbonponclcehiaa.Mem Go.Proofs.Ytbonponclcehiaa.Args Go.Proofs.Ytbonponclcehiaa.Own
theorem RStep.pre1 {w0 w w' : World} {base : Nat} {A : RAdr} {S' : St} (ho : Only (fun b => b = A.d) w0 w) (h : RStep w w' base A S') : RStep w0 w' base A S' := h.pre (ho.mono fun b hb => .inl hb)
theorem val_same {S S' : St} (h : SameData S S') (o : Nat) : S'.val o = S.val o := by
  unfold St.val St.cur; rw [h.pers, h.hist]
theorem isW_same {S S' : St} (h : SameData S S') (o : Nat) : S'.isW o = S.isW o := by
  unfold St.isW; rw [h.n]
theorem St.Ok.may {S : St} {M : Nat} (h : S.Ok M) (t : Nat) (v : Bool) : (S.mayS t v).Ok M := by
  have hs : ∀ e, e ≤ 3 → (S.setErr t e).Ok M := fun e he => ⟨h.n0, h.n1, h.pers, h.hist, h.sum, h.ex, fun u => by
    show (if _ then _ else _) ≤ 3
    split
    · exact he
    · exact h.err u, h.left, h.note, h.keys, h.cnt⟩
  unfold St.mayS
  split
  · exact hs 3 (by omega)
  · split
    · exact h
    · exact hs 2 (by omega)
theorem rload_any (w : World) (base M : Nat) (A : RAdr) (S : St) (t o : Nat) (h : IsRef w base A S) (hS : S.Ok M) (hM : M ≤ 1000000) (ht : t < 8) (ho : o < 18446744073709551616) :
    Calls Try.prog 73 #[.pointer (some ⟨A.d, 0, none⟩), .int .i64 (t : Int), .int .u64 (o : Int)] w fun r w' => r = .returned (.int .u64 (S.load o : Int)) ∧ Hid (RStep w w' base A (S.loadS t o)) := by
  have HI := Lib.hid (ris_any w A S o h.dev hS.n1 ho)
  have HA := Lib.hid (rmay_any w A S t (S.isW o) h.dev ht)
  have HD := Lib.hid h
  have HS := Lib.hid (hS.may t (S.isW o))
  by_cases hm : S.may (S.isW o) = true
  · have hw : S.isW o = true := by simp [St.may] at hm; exact hm.2
    have HE : Hid (S.load o = S.val o) := by simp [Hid, St.load, hm]
    have HW := Lib.hid (show (S.mayS t (S.isW o)).isW o = true by rw [isW_same (SameData.mayS S t _)]; exact hw)
    rw [hm] at HA
    clear h hS hm
    have HLS := Lib.hid (show S.loadS t o = S.mayS t (S.isW o) from rfl)
    rw [hw] at HI HA HS HW HLS
    clear hw
    go_enter Try.func73, Try.ntmps73
    go_wp2_with (first
      | (go_at_call 77; refine HI.out.mono ?_; rintro e w' ⟨rfl, hw⟩; have hw2 := hw.symm; clear hw; subst hw2)
      | (go_at_call 85; refine HA.out.mono ?_; rintro e w1 ⟨rfl, HQ⟩; have HI1 := Lib.hid (HD.out.ctl HQ.out.1 HQ.out.2 (SameData.mayS S t true)))
      | (go_at_call 86; refine (rvalue_any _ base M A (S.mayS t true) o HI1.out HS.out hM HW.out ho).mono ?_; rintro e w2 ⟨he, hb⟩; rw [val_same (SameData.mayS S t true)] at he; subst he; have HB := Lib.hid hb; clear hb))
    go_ret
    exact ⟨ret_int (by rw [HE.out]), Lib.hid (by rw [HLS.out]; exact (HD.out.ctlStep HQ.out.1 HQ.out.2 (SameData.mayS S t true)).then HB.out)⟩
  · have hm' : S.may (S.isW o) = false := by simpa using hm
    have HE : Hid (S.load o = 0) := by simp [Hid, St.load, hm']
    rw [hm'] at HA
    have HLS := Lib.hid (show S.loadS t o = S.mayS t (S.isW o) from rfl)
    clear h hS hm hm'
    generalize S.isW o = v at *
    go_enter Try.func73, Try.ntmps73
    go_wp2_with (first
      | (go_at_call 77; refine HI.out.mono ?_; rintro e w' ⟨rfl, hw⟩; have hw2 := hw.symm; clear hw; subst hw2)
      | (go_at_call 85; refine HA.out.mono ?_; rintro e w1 ⟨rfl, HQ⟩))
    go_ret
    exact ⟨ret_int (by rw [HE.out]; rfl), Lib.hid (by rw [HLS.out]; exact HD.out.ctlStep HQ.out.1 HQ.out.2 (SameData.mayS S t v))⟩
theorem rstore_any (w : World) (base M : Nat) (A : RAdr) (S : St) (t o x : Nat) (h : IsRef w base A S) (hS : S.Ok M) (hS' : (S.cntS t (S.isW o)).Ok M) (hM : M ≤ 1000000) (ht : t < 8) (ho : o < 18446744073709551616) :
    Calls Try.prog 48 #[.pointer (some ⟨A.d, 0, none⟩), .int .i64 (t : Int), .int .u64 (o : Int), .int .u64 (x : Int)] w fun r w' => r = .returned (.tuple #[]) ∧ Hid (RStep w w' base A (S.storeS t o x)) := by
  have HI := Lib.hid (ris_any w A S o h.dev hS.n1 ho)
  have HC := Lib.hid (rcounted_any w A S t (S.isW o) h.dev ht (by have := hS.ex; omega) hS.left)
  have HD := Lib.hid h
  have HS2 := Lib.hid hS'
  clear h hS hS'
  by_cases hm : S.cnt (S.isW o) = true
  · have hw : S.isW o = true := by simp [St.cnt] at hm; exact hm.1.2
    have HE : Hid (S.storeS t o x = (S.cntS t true).put o x) := by simp only [Hid, St.storeS]; rw [if_pos hm, hw]
    rw [hm, hw] at HC
    rw [hw] at HI HS2
    have HW := Lib.hid (show (S.cntS t true).isW o = true by rw [isW_same (SameData.cntS S t _)]; exact hw)
    clear hm hw
    go_enter Try.func48, Try.ntmps48
    go_wp2_with (first
      | (go_at_call 77; refine HI.out.mono ?_; rintro e w' ⟨rfl, hw⟩; have hw2 := hw.symm; clear hw; subst hw2)
      | (go_at_call 76; refine HC.out.mono ?_; rintro e w1 ⟨rfl, HQ⟩; have HI1 := Lib.hid (HD.out.ctl HQ.out.1 HQ.out.2 (SameData.cntS S t true)))
      | (go_at_call 78; refine (rput_any _ base M A (S.cntS t true) o x HI1.out HS2.out hM HW.out ho).mono ?_; rintro e w2 ⟨rfl, HR⟩))
    go_end0
    exact ⟨rfl, Lib.hid (by rw [HE.out]; exact RStep.pre1 HQ.out.2 HR.out)⟩
  · have hm' : S.cnt (S.isW o) = false := by simpa using hm
    have HE : Hid (S.storeS t o x = S.cntS t (S.isW o)) := by simp only [Hid, St.storeS]; rw [if_neg hm]
    rw [hm'] at HC
    clear hm hm'
    generalize S.isW o = v at *
    go_enter Try.func48, Try.ntmps48
    go_wp2_with (first
      | (go_at_call 77; refine HI.out.mono ?_; rintro e w' ⟨rfl, hw⟩; have hw2 := hw.symm; clear hw; subst hw2)
      | (go_at_call 76; refine HC.out.mono ?_; rintro e w1 ⟨rfl, HQ⟩))
    go_end0
    exact ⟨rfl, Lib.hid (by rw [HE.out]; exact HD.out.ctlStep HQ.out.1 HQ.out.2 (SameData.cntS S t v))⟩
set_option maxRecDepth 100000 in
theorem rcas_any (w : World) (base M : Nat) (A : RAdr) (S : St) (t o old x : Nat) (h : IsRef w base A S) (hS : S.Ok M) (hS' : (S.cntS t (S.isW o)).Ok M) (hM : M ≤ 1000000) (ht : t < 8) (ho : o < 18446744073709551616) :
    Calls Try.prog 74 #[.pointer (some ⟨A.d, 0, none⟩), .int .i64 (t : Int), .int .u64 (o : Int), .int .u64 (old : Int), .int .u64 (x : Int)] w fun r w' => r = .returned (.bool (S.cas o old)) ∧ Hid (RStep w w' base A (S.casS t o old x)) := by
  have HI := Lib.hid (ris_any w A S o h.dev hS.n1 ho)
  have HC := Lib.hid (rcounted_any w A S t (S.isW o) h.dev ht (by have := hS.ex; omega) hS.left)
  have HD := Lib.hid h
  have HS2 := Lib.hid hS'
  clear h hS hS'
  by_cases hm : S.cnt (S.isW o) = true
  · have hw : S.isW o = true := by simp [St.cnt] at hm; exact hm.1.2
    rw [hw] at HI HS2
    have HW := Lib.hid (show (S.cntS t true).isW o = true by rw [isW_same (SameData.cntS S t _)]; exact hw)
    have HVL := Lib.hid (val_same (SameData.cntS S t true) o)
    by_cases hv : S.val o = old
    · have HE : Hid (S.cas o old = true ∧ S.casS t o old x = (S.cntS t true).put o x) := by
        have : S.cas o old = true := by simp [St.cas, hm, hv]
        refine ⟨this, ?_⟩
        simp only [St.casS]; rw [if_pos this, hw]
      rw [hm, hw] at HC
      have HV := Lib.hid hv
      have hne : ((old : Int) != (old : Int)) = false := by simp
      clear hm hw hv
      go_enter Try.func74, Try.ntmps74
      go_wp2_with (first
        | (go_at_call 77; refine HI.out.mono ?_; rintro e w' ⟨rfl, hw⟩; have hw2 := hw.symm; clear hw; subst hw2)
        | (go_at_call 76; refine HC.out.mono ?_; rintro e w1 ⟨rfl, HQ⟩; have HI1 := Lib.hid (HD.out.ctl HQ.out.1 HQ.out.2 (SameData.cntS S t true)))
        | (go_at_call 86; refine (rvalue_any _ base M A (S.cntS t true) o HI1.out HS2.out hM HW.out ho).mono ?_; rintro e w2 ⟨he, hb⟩; rw [HVL.out, HV.out] at he; subst he; have HB := Lib.hid hb; clear hb; have HI2 := Lib.hid (HI1.out.below HB.out (Nat.le_refl _)))
        | (go_at_call 78; refine (rput_any _ base M A (S.cntS t true) o x HI2.out HS2.out hM HW.out ho).mono ?_; rintro e w3 ⟨rfl, HR⟩))
      go_ret
      exact ⟨ret_bool HE.out.1.symm, Lib.hid (by rw [HE.out.2]; exact RStep.pre ((HQ.out.2.mono fun b hb => .inl hb).trans (Only.ofBelow HB.out _)) HR.out)⟩
    · have HE : Hid (S.cas o old = false ∧ S.casS t o old x = S.cntS t true) := by
        have : S.cas o old = false := by simp [St.cas, hv]
        refine ⟨this, ?_⟩
        simp only [St.casS]; rw [this, hw]; rfl
      rw [hm, hw] at HC
      have hne : ((S.val o : Int) != (old : Int)) = true := by simp; omega
      clear hm hw hv
      generalize hX : S.val o = X at *
      have HX := Lib.hid hX
      clear hX
      go_enter Try.func74, Try.ntmps74
      go_wp2_with (first
        | (go_at_call 77; refine HI.out.mono ?_; rintro e w' ⟨rfl, hw⟩; have hw2 := hw.symm; clear hw; subst hw2)
        | (go_at_call 76; refine HC.out.mono ?_; rintro e w1 ⟨rfl, HQ⟩; have HI1 := Lib.hid (HD.out.ctl HQ.out.1 HQ.out.2 (SameData.cntS S t true)))
        | (go_at_call 86; refine (rvalue_any _ base M A (S.cntS t true) o HI1.out HS2.out hM HW.out ho).mono ?_; rintro e w2 ⟨he, hb⟩; rw [HVL.out] at he; subst he; have HB := Lib.hid hb; clear hb))
      go_ret
      exact ⟨ret_bool HE.out.1.symm, Lib.hid (by rw [HE.out.2]; exact (HD.out.ctlStep HQ.out.1 HQ.out.2 (SameData.cntS S t true)).then HB.out)⟩
  · have hm' : S.cnt (S.isW o) = false := by simpa using hm
    have HE : Hid (S.cas o old = false ∧ S.casS t o old x = S.cntS t (S.isW o)) := by
      have : S.cas o old = false := by simp only [St.cas]; rw [hm']; rfl
      refine ⟨this, ?_⟩
      simp only [St.casS]; rw [this]; rfl
    rw [hm'] at HC
    clear hm hm'
    generalize S.isW o = v at *
    go_enter Try.func74, Try.ntmps74
    go_wp2_with (first
      | (go_at_call 77; refine HI.out.mono ?_; rintro e w' ⟨rfl, hw⟩; have hw2 := hw.symm; clear hw; subst hw2)
      | (go_at_call 76; refine HC.out.mono ?_; rintro e w1 ⟨rfl, HQ⟩))
    go_ret
    exact ⟨ret_bool HE.out.1.symm, Lib.hid (by rw [HE.out.2]; exact HD.out.ctlStep HQ.out.1 HQ.out.2 (SameData.cntS S t v))⟩
end Go.Proofs.Ytbonponclcehiaa.Dev
/-
  THE REFERENCE's DEVICE: persist.
-/
namespace Go.Proofs.Ytbonponclcehiaa.Dev
open Go.ChangeShapes Go.WideShapes Go.ChangeAt Go.RowKit Go.Proofs.Ytbonponclcehiaa.Mem Go.Proofs.Ytbonponclcehiaa.Args Go.Proofs.Ytbonponclcehiaa.Own
theorem IsRef.line2 {w : World} {base : Nat} {A : RAdr} {S : St} (h : IsRef w base A S) {k : Nat} (hk : k < S.n) {C : Option Addr} {n c : Nat} (e : A.hv k = .slice C n c) : (C = none ∧ c = 0) ∨ ∃ g, C = some ⟨g, 0, none⟩ ∧ g < w.heap.size ∧ ∀ o, o < (S.hist k).length * 2 → w.cell? ⟨g, o, none⟩ = (hcells (S.hist k))[o]? := by
  obtain ⟨C', c', e', h1, h2, h3, h4⟩ := (h.hist k hk).1.form
  rw [e] at e'
  cases e'
  rcases hC : C with _ | ad
  · exact .inl ⟨rfl, h3 hC⟩
  · have hob : (A.hv k).ownBlock = some ad.block := by rw [e, hC]; rfl
    obtain ⟨h5, h6⟩ := h4 ad.block hob
    exact .inr ⟨ad.block, by rw [← hC]; exact h5, ((h.hist k hk).1.lt _ hob).2, h6⟩
set_option maxRecDepth 100000 in
set_option maxHeartbeats 1000000 in
theorem rpersist_any (w : World) (base M : Nat) (A : RAdr) (S : St) (l k : Nat) (h : IsRef w base A S) (hS : S.Ok M) (hM : M ≤ 1000000) (hl : l < S.n) (hk : k ≤ (S.hist l).length) :
    Calls Try.prog 79 #[.pointer (some ⟨A.d, 0, none⟩), .int .i64 (l : Int), .int .i64 (k : Int)] w fun e w' => e = .returned (.tuple #[]) ∧ Hid (RStep w w' base A (S.pst l k)) := by
  obtain ⟨i0, hi, hz0, hz1, hz2⟩ := info_parts infoRWrite
  have HI := Lib.hid hi
  have HZ0 := Lib.hid hz0
  have HZ1 := Lib.hid hz1
  have HZ2 := Lib.hid hz2
  clear hi hz0 hz1 hz2
  have c0 := RB.c0 h.dev
  obtain ⟨C, c, hCv, h1, h2, hp, hh, hg, hr⟩ := h.line hl
  have hcase := h.line2 hl hCv
  have hlt := h.lines.lt
  have hsum := hS.sum l
  have hn := hS.n1
  have hln : (l : Int) < (S.n : Int) := by omega
  have HD := Lib.hid h
  have HR := Lib.hid hr
  have HWD := Lib.hid (words_any w w.heap.size k (S.hist l).length c C (S.gone l : Int) (S.pers l) (S.hist l) rfl h1 h2 hk hr (Nat.le_refl _) (hS.fine l))
  obtain ⟨F, hF⟩ : ∃ F, applyW (S.pers l) ((S.hist l).take k) = F := ⟨_, rfl⟩
  rw [hF] at HWD
  have HF := Lib.hid hF
  have hbw := Nat.le_trans h.bl (Nat.le_of_lt hlt)
  obtain ⟨m, hm⟩ : ∃ m, (S.hist l).length = m := ⟨_, rfl⟩
  rw [hm] at h1 hh HR hsum hk HWD
  have HM := Lib.hid hm
  have d0 := hp 0 (by decide)
  have d1 := hp 1 (by decide)
  have d2 := hp 2 (by decide)
  have d3 := hp 3 (by decide)
  have d4 := hp 4 (by decide)
  have d5 := hp 5 (by decide)
  have d6 := hp 6 (by decide)
  have d7 := hp 7 (by decide)
  rw [Nat.add_zero] at d0
  have HH := Lib.hid hh
  have HG := Lib.hid hg
  unfold maxLen at h2
  have HCV := Lib.hid hCv
  clear h hS hp hr hF hm hCv
  go_enter Try.func79, Try.ntmps79
  go_upto_region 2 with (go_at_call 80; refine HWD.out.mono ?_; rintro e w1 ⟨he, hb⟩; simp only [words8, wordG] at he; subst he; have BL := HD.out.lines.below hb HD.out.lines.lt; have HB := Lib.hid hb; have HBL := Lib.hid BL; have c0' := BL.cell (o := l * 10 + 0) (by omega); have z0 := BL.frozen (l * 10 + 0); have c1' := BL.cell (o := l * 10 + 1) (by omega); have z1 := BL.frozen (l * 10 + 1); have c2' := BL.cell (o := l * 10 + 2) (by omega); have z2 := BL.frozen (l * 10 + 2); have c3' := BL.cell (o := l * 10 + 3) (by omega); have z3 := BL.frozen (l * 10 + 3); have c4' := BL.cell (o := l * 10 + 4) (by omega); have z4 := BL.frozen (l * 10 + 4); have c5' := BL.cell (o := l * 10 + 5) (by omega); have z5 := BL.frozen (l * 10 + 5); have c6' := BL.cell (o := l * 10 + 6) (by omega); have z6 := BL.frozen (l * 10 + 6); have c7' := BL.cell (o := l * 10 + 7) (by omega); have z7 := BL.frozen (l * 10 + 7); rw [Nat.add_zero] at c0' z0; clear hb BL)
  obtain ⟨wc, hwc⟩ : ∃ wc, wc = ((((((((w1.setCell ⟨A.lb, l * 10, none⟩ (.int .u64 (F 0 : Int))).setCell ⟨A.lb, l * 10 + 1, none⟩ (.int .u64 (F 1 : Int))).setCell ⟨A.lb, l * 10 + 2, none⟩ (.int .u64 (F 2 : Int))).setCell ⟨A.lb, l * 10 + 3, none⟩ (.int .u64 (F 3 : Int))).setCell ⟨A.lb, l * 10 + 4, none⟩ (.int .u64 (F 4 : Int))).setCell ⟨A.lb, l * 10 + 5, none⟩ (.int .u64 (F 5 : Int))).setCell ⟨A.lb, l * 10 + 6, none⟩ (.int .u64 (F 6 : Int))).setCell ⟨A.lb, l * 10 + 7, none⟩ (.int .u64 (F 7 : Int))) := ⟨_, rfl⟩
  rw [← hwc]
  have OC : Only (fun b => b = A.lb) w wc := by rw [hwc]; exact ((((((((((Only.ofBelow HB.out (fun b => b = A.lb))).set _ _ (.inl rfl)).set _ _ (.inl rfl)).set _ _ (.inl rfl)).set _ _ (.inl rfl)).set _ _ (.inl rfl)).set _ _ (.inl rfl)).set _ _ (.inl rfl)).set _ _ (.inl rfl))
  have BC : ∃ gc, Blk wc A.lb 85 (S.n * 10) gc ∧ (∀ o, o < l * 10 ∨ l * 10 + 8 ≤ o → gc o = rlinesG A S o) ∧ ∀ j, j < 8 → gc (l * 10 + j) = wordG F j := by
    rw [hwc]
    refine ⟨_, ((((((((HBL.out.set _ _).set _ _).set _ _).set _ _).set _ _).set _ _).set _ _).set _ _), fun o ho => ?_, fun j hj => ?_⟩
    · simp only [upd]
      repeat (rw [if_neg (by omega)])
    · match j, hj with
      | 0, _ => simp [upd, wordG]
      | 1, _ => simp [upd, wordG]
      | 2, _ => simp [upd, wordG]
      | 3, _ => simp [upd, wordG]
      | 4, _ => simp [upd, wordG]
      | 5, _ => simp [upd, wordG]
      | 6, _ => simp [upd, wordG]
      | 7, _ => simp [upd, wordG]
  obtain ⟨gc, BC, hgc1, hgc2⟩ := BC
  clear hwc HB HBL z0 z1 z2 z3 z4 z5 z6 z7 c0' c1' c2' c3' c4' c5' c6' c7' d0 d1 d2 d3 d4 d5 d6 d7
  have HOC := Lib.hid OC
  have HBC := Lib.hid BC
  have HG1 := Lib.hid hgc1
  have HG2 := Lib.hid hgc2
  have c8 := BC.cell (o := l * 10 + 8) (by omega)
  rw [hgc1 _ (by omega), rl_hist] at c8
  have hwc1 := OC.size
  have hlbc := BC.lt
  have fin : Hid (∀ (w2 : World) (v : Value) (n' : Nat), n' = m - k → Row2 w2 w.heap.size 127 v n' (hcells ((S.hist l).drop k)) → Only (fun _ => False) wc w2 → ∀ w3, w3 = (w2.setCell ⟨A.lb, l * 10 + 8, none⟩ v).setCell ⟨A.lb, l * 10 + 9, none⟩ (.int .i64 ((S.gone l + k : Nat) : Int)) → RStep w w3 base A (S.pst l k)) := fun w2 v n' hn' hrow hO w3 hw3 => by
    have B2 := hO.blk HBC.out (fun f => f)
    have hneb : ∀ b, v.ownBlock = some b → b ≠ A.lb := fun b hb e => by
      have := (hrow.lt b hb).1
      omega
    rw [hw3]
    refine HD.out.histSet hl rfl rfl rfl rfl rfl rfl (fun i hi => ⟨if_neg hi, if_neg hi, if_neg hi⟩) v _ ((B2.set (l * 10 + 8) v).set (l * 10 + 9) _) (fun o ho => ?_) (fun j hj => ?_) ?_ ?_ ?_ ?_ (fun b hb => (hrow.lt b hb).1)
    · rw [upd_other _ _ (by omega), upd_other _ _ (by omega)]; exact HG1.out o (by omega)
    · rw [upd_other _ _ (by omega), upd_other _ _ (by omega), HG2.out j hj, ← HF.out]
      unfold St.pst; simp only [if_true]
    · rw [upd_other _ _ (by omega), upd_same]
    · rw [upd_same]; unfold St.pst; simp only [if_true]
    · have e1 : (S.pst l k).hist l = (S.hist l).drop k := by unfold St.pst; simp only [if_true]
      rw [e1, List.length_drop, HM.out, ← hn']
      refine (hrow.mono hbw).of_block fun b hb => ?_
      rw [heap_setCell_other _ _ _ _ (hneb b hb), heap_setCell_other _ _ _ _ (hneb b hb)]
    · exact ((HOC.out.trans (hO.mono fun _ f => f.elim)).set _ _ (.inl rfl)).set _ _ (.inl rfl)
  have hcv : A.hv l = .slice C m c := by rw [HCV.out, HM.out]
  rw [hcv] at c8
  clear OC BC hgc1 hgc2 hcv
  have HDL : Hid ((hcells ((S.hist l).drop k)).length = (m - k) * 2) := by unfold Hid; rw [hcells_len, List.length_drop, HM.out]
  by_cases hck : c = k
  · subst hck
    rcases hcase with ⟨rfl, h0⟩ | ⟨g, rfl, hgl, hcells0⟩
    · subst h0
      obtain rfl : m = 0 := by omega
      go_wp2_with (at_builtin; refine wpList_app2 (by simp [Region.wanted, yielded]) (.tmp 22) (.tmp 28) 83 rfl (base := w.heap.size) (n := 0) (xs := []) (v := .slice (some ⟨wc.heap.size, 0, none⟩) 0 0) (A := none) (m := 0) (c := _) (news := hcells ((S.hist l).drop 0)) Try.underlying83 HI.out HZ0.out HZ1.out HZ2.out rfl rfl (World.ownsRow_made wc #[] 0 hwc1 (by simp [maxLen]) rfl) rfl (by have := HDL.out; omega) (fun h0 => by omega) (hcells_one _) (by unfold maxLen; omega) (by omega) (by simp; omega) ?_; intro v1 w2 hown1 hgr1 hob1; rw [Nat.zero_add, List.nil_append] at hown1; have O2 : Only (fun _ => False) wc w2 := ((Only.refl (fun _ => False) wc).alloc _).trans' (G := fun b => wc.heap.size ≤ b) (Only.ofGrown hgr1 (fun k hk => .inl (by cases hk; exact Nat.le_refl _))) (fun b hb => .inr hb); have B2 := O2.blk HBC.out (fun f => f); have c82 := B2.cell (o := l * 10 + 8) (by omega); have c92 := B2.cell (o := l * 10 + 9) (by omega); have z82 := B2.frozen (l * 10 + 8); have z92 := B2.frozen (l * 10 + 9); rw [HG1.out _ (by omega), rl_gone] at c92; have HO1 := Lib.hid hown1; have HO2 := Lib.hid O2; have hform : ∃ A' n' c', v1 = .slice A' n' c' := (by rcases hown1.2 with ⟨rfl, _⟩ | ⟨gb, cap, cur, rfl, _⟩; exact ⟨_, _, _, rfl⟩; exact ⟨_, _, _, rfl⟩); obtain ⟨A', n', c', rfl⟩ := hform; clear hown1 hgr1 hob1 O2 B2)
      go_end0
      exact ⟨rfl, Lib.hid (fin.out _ _ _ (by omega) HO1.out HO2.out _ (by simp))⟩
    · clear hcells0
      go_wp2_with (at_builtin; refine wpList_app2 (by simp [Region.wanted, yielded]) (.tmp 22) (.tmp 28) 83 rfl (base := w.heap.size) (n := 0) (xs := []) (v := .slice (some ⟨wc.heap.size, 0, none⟩) 0 0) (A := some ⟨g, 0, none⟩) (m := 0) (c := _) (news := hcells ((S.hist l).drop c)) Try.underlying83 HI.out HZ0.out HZ1.out HZ2.out rfl rfl (World.ownsRow_made wc #[] 0 hwc1 (by simp [maxLen]) rfl) rfl (by have := HDL.out; omega) (fun h0 => by omega) (hcells_one _) (by unfold maxLen; omega) (by omega) (by simp; omega) ?_; intro v1 w2 hown1 hgr1 hob1; rw [Nat.zero_add, List.nil_append] at hown1; have O2 : Only (fun _ => False) wc w2 := ((Only.refl (fun _ => False) wc).alloc _).trans' (G := fun b => wc.heap.size ≤ b) (Only.ofGrown hgr1 (fun k hk => .inl (by cases hk; exact Nat.le_refl _))) (fun b hb => .inr hb); have B2 := O2.blk HBC.out (fun f => f); have c82 := B2.cell (o := l * 10 + 8) (by omega); have c92 := B2.cell (o := l * 10 + 9) (by omega); have z82 := B2.frozen (l * 10 + 8); have z92 := B2.frozen (l * 10 + 9); rw [HG1.out _ (by omega), rl_gone] at c92; have HO1 := Lib.hid hown1; have HO2 := Lib.hid O2; have hform : ∃ A' n' c', v1 = .slice A' n' c' := (by rcases hown1.2 with ⟨rfl, _⟩ | ⟨gb, cap, cur, rfl, _⟩; exact ⟨_, _, _, rfl⟩; exact ⟨_, _, _, rfl⟩); obtain ⟨A', n', c', rfl⟩ := hform; clear hown1 hgr1 hob1 O2 B2)
      go_end0
      exact ⟨rfl, Lib.hid (fin.out _ _ _ (by omega) HO1.out HO2.out _ (by simp))⟩
  · have hkc : k < c := by omega
    rcases hcase with ⟨_, h0⟩ | ⟨g, rfl, hgl, hcells0⟩
    · omega
    · have HSRC : Hid (0 < m - k → ∃ ad, (some (⟨g, k * 2, none⟩ : Addr)) = some ad ∧ ∀ j u, (hcells ((S.hist l).drop k))[j]? = some u → (wc.alloc (.cells #[] 127 (0, 0))).cell? (ad.add j) = some u) := fun _ => ⟨_, rfl, fun j u hu => by
        have hj : j < (m - k) * 2 := by rw [← HDL.out]; exact (List.getElem?_eq_some_iff.1 hu).1
        rw [show (⟨g, k * 2, none⟩ : Addr).add j = ⟨g, k * 2 + j, none⟩ by unfold Addr.add; split <;> simp_all]
        have hgne : g ≠ A.lb := fun e => by
          have := (HD.out.hist l hl).2.2
          rw [HCV.out] at this
          exact this (by rw [e]; rfl)
        rw [World.cell?_alloc_past _ _ _ (by omega), World.cell?_of_block (w := w) (HOC.out.block g hgl hgne), hcells0 _ (by rw [HM.out]; omega), ← hu, ← hcells_drop, List.getElem?_drop]⟩
      have HHC := Lib.hid hcells0
      clear hcells0
      go_wp2_with (at_builtin; refine wpList_app2 (by simp [Region.wanted, yielded]) (.tmp 22) (.tmp 28) 83 rfl (base := w.heap.size) (n := 0) (xs := []) (v := .slice (some ⟨wc.heap.size, 0, none⟩) 0 0) (A := some ⟨g, k * 2, none⟩) (m := m - k) (c := _) (news := hcells ((S.hist l).drop k)) Try.underlying83 HI.out HZ0.out HZ1.out HZ2.out rfl rfl (World.ownsRow_made wc #[] 0 hwc1 (by simp [maxLen]) rfl) rfl HDL.out HSRC.out (hcells_one _) (by simp [maxLen]; omega) (by omega) (by simp; omega) ?_; intro v1 w2 hown1 hgr1 hob1; rw [Nat.zero_add, List.nil_append] at hown1; have O2 : Only (fun _ => False) wc w2 := ((Only.refl (fun _ => False) wc).alloc _).trans' (G := fun b => wc.heap.size ≤ b) (Only.ofGrown hgr1 (fun k hk => .inl (by cases hk; exact Nat.le_refl _))) (fun b hb => .inr hb); have B2 := O2.blk HBC.out (fun f => f); have c82 := B2.cell (o := l * 10 + 8) (by omega); have c92 := B2.cell (o := l * 10 + 9) (by omega); have z82 := B2.frozen (l * 10 + 8); have z92 := B2.frozen (l * 10 + 9); rw [HG1.out _ (by omega), rl_gone] at c92; have HO1 := Lib.hid hown1; have HO2 := Lib.hid O2; have hform : ∃ A' n' c', v1 = .slice A' n' c' := (by rcases hown1.2 with ⟨rfl, _⟩ | ⟨gb, cap, cur, rfl, _⟩; exact ⟨_, _, _, rfl⟩; exact ⟨_, _, _, rfl⟩); obtain ⟨A', n', c', rfl⟩ := hform; clear hown1 hgr1 hob1 O2 B2)
      go_end0
      exact ⟨rfl, Lib.hid (fin.out _ _ _ rfl HO1.out HO2.out _ (by simp))⟩
end Go.Proofs.Ytbonponclcehiaa.Dev
/-
  THE REFERENCE's DEVICE: WriteBack, Arm, Fence.
-/
namespace Go.Proofs.Ytbonponclcehiaa.Dev
open Go.ChangeShapes Go.WideShapes Go.ChangeAt Go.RowKit Go.Proofs.Ytbonponclcehiaa.Mem Go.Proofs.Ytbonponclcehiaa.Args Go.Proofs.Ytbonponclcehiaa.Own
set_option maxRecDepth 100000 in
theorem rwriteBack_any (w : World) (base M : Nat) (A : RAdr) (S : St) (l k : Int) (h : IsRef w base A S) (hS : S.Ok M) (hM : M ≤ 1000000) (hk1 : -9223372036854775808 ≤ k) (hk2 : k ≤ 9223372036854775807) :
    Calls Try.prog 52 #[.pointer (some ⟨A.d, 0, none⟩), .int .i64 l, .int .i64 k] w fun r w' => r = .returned (.bool (S.wb l k)) ∧ Hid (RStep w w' base A (S.wbS l k)) := by
  have HD := Lib.hid h
  have c0 := RB.c0 h.dev
  have co := RB.cOff h.dev
  have hn := hS.n1
  by_cases ho : S.off = true
  · have HE : Hid (S.wb l k = false ∧ S.wbS l k = S) := by
      have : S.wb l k = false := by unfold St.wb; rw [ho]; rfl
      exact ⟨this, by unfold St.wbS; rw [this]; rfl⟩
    rw [ho] at co
    clear h hS ho
    go_enter Try.func52, Try.ntmps52
    go_wp2
    go_ret
    exact ⟨ret_bool HE.out.1.symm, Lib.hid (by rw [HE.out.2]; exact .refl HD.out)⟩
  · have hof : S.off = false := by simpa using ho
    rw [hof] at co
    have HOF := Lib.hid hof
    clear ho hof
    by_cases hl0 : l < 0
    · have HE : Hid (S.wb l k = false ∧ S.wbS l k = S) := by
        have : S.wb l k = false := by unfold St.wb; rw [decide_eq_false (show ¬ 0 ≤ l by omega)]; simp
        exact ⟨this, by unfold St.wbS; rw [this]; rfl⟩
      clear h hS
      go_enter Try.func52, Try.ntmps52
      go_wp2
      go_ret
      exact ⟨ret_bool HE.out.1.symm, Lib.hid (by rw [HE.out.2]; exact .refl HD.out)⟩
    · by_cases hln : (S.n : Int) ≤ l
      · have HE : Hid (S.wb l k = false ∧ S.wbS l k = S) := by
          have : S.wb l k = false := by unfold St.wb; rw [decide_eq_false (show ¬ l < (S.n : Int) by omega)]; simp
          exact ⟨this, by unfold St.wbS; rw [this]; rfl⟩
        clear h hS
        go_enter Try.func52, Try.ntmps52
        go_wp2
        go_ret
        exact ⟨ret_bool HE.out.1.symm, Lib.hid (by rw [HE.out.2]; exact .refl HD.out)⟩
      · obtain ⟨l', rfl⟩ := Int.eq_ofNat_of_zero_le (show 0 ≤ l by omega)
        have hl : l' < S.n := by omega
        have hli : (l' : Int) < (S.n : Int) := by omega
        obtain ⟨C, c, _, h1, h2, hp, hh, _, _⟩ := h.line hl
        have hsum := hS.sum l'
        have HWB : Hid (S.wb (l' : Int) k = (decide (0 ≤ k) && decide (k ≤ ((S.hist l').length : Int)))) := by
          unfold Hid St.wb
          rw [HOF.out, decide_eq_true (show (0 : Int) ≤ (l' : Int) by omega), decide_eq_true hli]
          simp
        have HP := fun (k' : Nat) hk => Lib.hid (rpersist_any w base M A S l' k' h hS hM hl hk)
        clear h hS hp hl0 hln
        generalize hlen : (S.hist l').length = n at *
        clear hlen
        by_cases hk : 0 ≤ k ∧ k ≤ n
        · obtain ⟨k', rfl⟩ := Int.eq_ofNat_of_zero_le hk.1
          have HE : Hid (S.wb (l' : Int) (k' : Int) = true ∧ S.wbS (l' : Int) (k' : Int) = S.pst l' k') := by
            have : S.wb (l' : Int) (k' : Int) = true := by rw [HWB.out]; simp; omega
            exact ⟨this, by unfold St.wbS; rw [this]; rfl⟩
          have hkn : k' ≤ n := by omega
          have HP2 := HP k' hkn
          clear HWB hk HP
          go_enter Try.func52, Try.ntmps52
          go_wp2_with (go_at_call 79; refine HP2.out.mono ?_; rintro e w1 ⟨rfl, HQ⟩)
          go_ret
          exact ⟨ret_bool HE.out.1.symm, Lib.hid (by rw [HE.out.2]; exact HQ.out)⟩
        · have HE : Hid (S.wb (l' : Int) k = false ∧ S.wbS (l' : Int) k = S) := by
            have : S.wb (l' : Int) k = false := by rw [HWB.out]; simp; omega
            exact ⟨this, by unfold St.wbS; rw [this]; rfl⟩
          clear HWB HP
          by_cases hk0 : k < 0
          · clear hk
            go_enter Try.func52, Try.ntmps52
            go_wp2
            go_ret
            exact ⟨ret_bool HE.out.1.symm, Lib.hid (by rw [HE.out.2]; exact .refl HD.out)⟩
          · have hk3 : (n : Int) < k := by omega
            clear hk
            go_enter Try.func52, Try.ntmps52
            go_wp2
            go_ret
            exact ⟨ret_bool HE.out.1.symm, Lib.hid (by rw [HE.out.2]; exact .refl HD.out)⟩
theorem rarm_any (w : World) (base : Nat) (A : RAdr) (S : St) (m : Int) (h : IsRef w base A S) (h0 : -9223372036854775808 ≤ m) (h1 : m ≤ 9223372036854775807) :
    Calls Try.prog 75 #[.pointer (some ⟨A.d, 0, none⟩), .int .i64 m] w fun r w' => r = .returned (.tuple #[]) ∧ Hid (RStep w w' base A (S.armS m)) := by
  have co := RB.cOff h.dev
  have cl := RB.cLeft h.dev
  have zl := h.dev.frozen 17
  have HD := Lib.hid h
  clear h
  by_cases ho : S.off = true
  · have HE := Lib.hid (show S.armS m = S by simp [St.armS, ho])
    rw [ho] at co
    clear ho
    go_enter Try.func75, Try.ntmps75
    go_wp2
    go_end0
    exact ⟨rfl, Lib.hid (by rw [HE.out]; exact .refl HD.out)⟩
  · have hof : S.off = false := by simpa using ho
    rw [hof] at co
    have H2 := Lib.hid (show RStep w (w.setCell ⟨A.d, 17, none⟩ (.int .i64 (max m (-1)))) base A (S.armS m) from by
      have e : S.armS m = { S with left := if 0 ≤ m then some m.toNat else none } := by simp [St.armS, hof]
      rw [e]
      refine HD.out.ctlStep ?_ ((Only.refl (fun b => b = A.d) w).set _ _ (.inl rfl)) ⟨rfl, rfl, rfl, rfl, rfl, Nat.le_refl _⟩
      refine (Blk.set HD.out.dev 17 _).ext fun o ho => ?_
      by_cases k : o = 17
      · subst k; rw [upd_same]
        unfold refG leftI
        by_cases hm : 0 ≤ m
        · simp [hm]; omega
        · simp [hm]; omega
      · rw [upd_other _ _ k]; exact refG_far _ _ _ _ rfl rfl (fun _ => trivial) (fun e => absurd e k) (fun _ => rfl) (fun _ => rfl))
    clear ho hof
    by_cases hm : -1 ≤ m
    · have hmx : max m (-1) = m := by omega
      rw [hmx] at H2
      go_enter Try.func75, Try.ntmps75
      go_wp2
      go_end0
      exact ⟨rfl, H2⟩
    · have hmx : max m (-1) = -1 := by omega
      rw [hmx] at H2
      go_enter Try.func75, Try.ntmps75
      go_wp2
      go_end0
      exact ⟨rfl, H2⟩
end Go.Proofs.Ytbonponclcehiaa.Dev
/-
  THE REFERENCE's DEVICE: Fence.
-/
namespace Go.Proofs.Ytbonponclcehiaa.Dev
open Go.ChangeShapes Go.WideShapes Go.ChangeAt Go.RowKit Go.Proofs.Ytbonponclcehiaa.Mem Go.Proofs.Ytbonponclcehiaa.Args Go.Proofs.Ytbonponclcehiaa.Own
/-- A thread's notes were written anew. -/
theorem IsRef.noteSet {w w2 : World} {base : Nat} {A : RAdr} {S : St} (h : IsRef w base A S) {t : Nat} (ht : t < 8) (v : Value) (l : List (Nat × Nat)) (O2 : Only (fun _ => False) w w2) (hrow : Row2 w2 base 124 v l.length (ncells l)) (hd : v.ownBlock ≠ some A.d) (hlb : v.ownBlock ≠ some A.lb) :
    RStep w (w2.setCell ⟨A.d, 1 + t, none⟩ v) base A { S with notes := fun u => if u = t then l else S.notes u } := by
  have ho : Only (fun b => b = A.d) w (w2.setCell ⟨A.d, 1 + t, none⟩ v) := (O2.mono fun _ f => f.elim).set _ _ (.inl rfl)
  refine ⟨{ A with nv := fun u => if u = t then v else A.nv u }, rfl, rfl, ⟨?_, ?_, fun i hi => ?_, fun u hu => ?_, h.dl, h.bd, h.bl⟩, ho.mono fun b hb => .inl hb⟩
  · refine ((O2.blk h.dev (fun f => f)).set (1 + t) v).ext fun o ho => ?_
    by_cases e : o = 1 + t
    · subst e; rw [upd_same, refG_note _ _ ht]; simp
    · rw [upd_other _ _ e]
      unfold refG
      simp only
      by_cases k1 : o = 0
      · simp only [k1, if_true]
      · by_cases k2 : o < 9
        · simp only [k1, k2, if_false, if_true, show ¬ (o - 1 = t) by omega]
        · simp only [k1, k2, if_false]
  · exact (ho.blk h.lines (fun e => h.dl e.symm)).ext fun o _ => rfl
  · exact ⟨(h.hist i hi).1.only ho (fun g hg e => (h.hist i hi).2.1 (by rw [hg, e])), (h.hist i hi).2⟩
  · by_cases e : u = t
    · subst e
      simp only [if_true]
      exact ⟨hrow.of_block fun g hg => heap_setCell_other _ _ _ _ (fun e => hd (by rw [hg, e])), hd, hlb⟩
    · simp only [if_neg e]
      exact ⟨(h.notes u hu).1.only ho (fun g hg e => (h.notes u hu).2.1 (by rw [hg, e])), (h.notes u hu).2⟩
/-- What is persisted when j notes are done. -/
def doneTo (S : St) (l : List (Nat × Nat)) (j i : Nat) : Nat := if (l.take j).any (fun p => p.1 == i) then S.kof l i else 0
theorem doneTo_zero (S : St) (l : List (Nat × Nat)) (i : Nat) : doneTo S l 0 i = 0 := by simp [doneTo]
theorem doneTo_all (S : St) (l : List (Nat × Nat)) : doneTo S l l.length = S.kof l := by
  funext i
  unfold doneTo
  rw [List.take_length]
  split
  · rfl
  · rename_i h
    refine (kof_none fun p hp e => h ?_).symm
    exact List.any_eq_true.2 ⟨p, hp, by simpa using e⟩
theorem doneTo_same {S : St} {l : List (Nat × Nat)} (hk : l.Pairwise (fun p q => p.1 ≠ q.1)) {j : Nat} (hj : j < l.length) : doneTo S l j (l[j]).1 = 0 := by
  unfold doneTo
  rw [if_neg]
  intro h
  obtain ⟨p, hp, e⟩ := List.any_eq_true.1 h
  obtain ⟨i, hi, rfl⟩ := List.getElem_of_mem hp
  rw [List.length_take] at hi
  have := List.pairwise_iff_getElem.1 hk i j (by omega) hj (by omega)
  rw [List.getElem_take] at e
  exact this (by simpa using e)
theorem doneTo_succ {S : St} {l : List (Nat × Nat)} {j : Nat} (hj : j < l.length) : doneTo S l (j + 1) = fun i => if i = (l[j]).1 then S.kof l (l[j]).1 else doneTo S l j i := by
  funext i
  unfold doneTo
  rw [List.take_succ_eq_append_getElem hj, List.any_append]
  by_cases e : i = (l[j]).1
  · subst e; simp
  · have : ¬ ((l[j]).1 = i) := fun h => e h.symm
    have hb : (l[j].1 == i) = false := by simpa using this
    simp only [List.any_cons, List.any_nil, hb, Bool.or_false, e, if_false]
theorem doneTo_le {S : St} {M t : Nat} (h : S.Ok M) (j i : Nat) : doneTo S (S.notes t) j i ≤ (S.hist i).length := by
  unfold doneTo
  split
  · exact kof_le h i
  · exact Nat.zero_le _
def RFenceRel (w1 : World) (base : Nat) (A : RAdr) (S1 : St) (l : List (Nat × Nat)) (j : Nat) (wr : World) : Prop :=
  ∃ A1 : RAdr, A1.d = A.d ∧ A1.lb = A.lb ∧ IsRef wr base A1 (S1.pstF (doneTo S1 l j)) ∧ Only (fun b => b = A.d ∨ b = A.lb) w1 wr
set_option maxRecDepth 100000 in
set_option maxHeartbeats 1000000 in
theorem rfence_yes (w : World) (base M : Nat) (A : RAdr) (S : St) (t : Nat) (h : IsRef w base A S) (hS : S.Ok M) (hM : M ≤ 1000000) (ht : t < 8) (hc : S.cnt true = true) (hS' : (S.cntS t true).Ok M) :
    Calls Try.prog 50 #[.pointer (some ⟨A.d, 0, none⟩), .int .i64 (t : Int)] w fun r w' => r = .returned (.tuple #[]) ∧ Hid (RStep w w' base A (S.fenceS t)) := by
  have HC := Lib.hid (rcounted_any w A S t true h.dev ht (by have := hS.ex; omega) hS.left)
  have HD := Lib.hid h
  have HS2 := Lib.hid hS'
  have HSD := Lib.hid (SameData.cntS S t true)
  have HE : Hid (S.fenceS t = ((S.cntS t true).pstF (S.kof (S.notes t))).clr t) := by simp only [Hid, St.fenceS]; rw [if_pos hc]
  rw [hc] at HC
  have ht8 : (t : Int) < 8 := by omega
  have hcntN := hS.cnt t
  clear h hS hS' hc
  go_enter Try.func50, Try.ntmps50
  obtain ⟨C, c, hCv, q1, q2, q3, q4⟩ := (HD.out.notes t ht).1.form
  have HCV := Lib.hid hCv
  have HQ4 := Lib.hid q4
  unfold maxLen at q2
  obtain ⟨n, hnn⟩ : ∃ n, (S.notes t).length = n := ⟨_, rfl⟩
  rw [hnn] at q1 hcntN
  have HN := Lib.hid hnn
  clear hCv q4 hnn
  go_wp2_with (go_at_call 76; refine HC.out.mono ?_; rintro e w1 ⟨rfl, HQ⟩; have cn := HQ.out.1.cell (o := 1 + t) (by omega); rw [refG_note _ _ ht, HCV.out, HN.out] at cn; have HI1 := Lib.hid (HD.out.ctl HQ.out.1 HQ.out.2 (SameData.cntS S t true)))
  have H0 : Hid (RFenceRel w1 base A (S.cntS t true) (S.notes t) 0 w1) := ⟨A, rfl, rfl, by rw [pstF_zero _ _ (fun i => doneTo_zero _ _ i)]; exact HI1.out, Only.refl _ _⟩
  clear cn
  go_loopw [18] (fun i wr => ∃ j : Nat, j ≤ n ∧ i = .int .i64 j ∧ Hid (RFenceRel w1 base A (S.cntS t true) (S.notes t) j wr)) (fun i _ => n - (intOf i).toNat)
  case atStart => exact ⟨0, by omega, rfl, H0⟩
  case round =>
    obtain ⟨j, hj, rfl, HR⟩ := hrel
    by_cases hlt : j < n
    · obtain ⟨A1, e1, e2, hI, hO⟩ := HR.out
      have hjl : j < (S.notes t).length := by rw [HN.out]; exact hlt
      obtain ⟨p1, p2⟩ := ncells_at (S.notes t) j hjl
      have hmem := List.getElem_mem hjl
      have hnote := HS2.out.note t _ (by rw [HSD.out.notes]; exact hmem)
      have hkeys : (S.notes t).Pairwise (fun p q => p.1 ≠ q.1) := by have := HS2.out.keys t; rw [HSD.out.notes] at this; exact this
      have hsame := doneTo_same (S := S.cntS t true) hkeys hjl
      have hsucc := doneTo_succ (S := S.cntS t true) hjl
      have hkof := kof_note (S := S.cntS t true) hkeys hmem
      rw [HSD.out.n] at hnote
      generalize (S.notes t)[j] = pr at *
      obtain ⟨l, pos⟩ := pr
      simp only at p1 p2 hnote hsame hsucc hkof
      -- where the notes lie
      obtain ⟨g, hCg, hgl, hgc⟩ : ∃ g, C = some ⟨g, 0, none⟩ ∧ (A.nv t).ownBlock = some g ∧ ∀ o, o < n * 2 → w.cell? ⟨g, o, none⟩ = (ncells (S.notes t))[o]? := by
        rcases hC : C with _ | ad
        · have := q3 hC; omega
        · have hob : (A.nv t).ownBlock = some ad.block := by rw [HCV.out, hC]; rfl
          obtain ⟨h5, h6⟩ := HQ4.out ad.block hob
          rw [HN.out] at h6
          exact ⟨ad.block, by rw [← hC]; exact h5, hob, h6⟩
      subst hCg
      have hgw := ((HD.out.notes t ht).1.lt g hgl).2
      have hgd : g ≠ A.d := fun e => (HD.out.notes t ht).2.1 (by rw [hgl, e])
      have hglb : g ≠ A.lb := fun e => (HD.out.notes t ht).2.2 (by rw [hgl, e])
      have hblk : wr.heap[g]? = w.heap[g]? := (hO.block g (Nat.lt_of_lt_of_le hgw HQ.out.2.size) (fun e => by rcases e with e | e; exact hgd e; exact hglb e)).trans (HQ.out.2.block g hgw hgd)
      have n0 : wr.cell? ⟨g, j * 2, none⟩ = some (.int .i64 (l : Int)) := by rw [World.cell?_of_block (w := w) hblk, hgc _ (by omega), p1]
      have n1 : wr.cell? ⟨g, j * 2 + 1, none⟩ = some (.int .i64 (pos : Int)) := by rw [World.cell?_of_block (w := w) hblk, hgc _ (by omega), p2]
      obtain ⟨hln, hpos⟩ := hnote
      have hOk := HS2.out.pstF (doneTo (S.cntS t true) (S.notes t) j) (fun i => by have := doneTo_le (t := t) HS2.out j i; rw [HSD.out.notes] at this; exact this)
      have hg2 : ((S.cntS t true).pstF (doneTo (S.cntS t true) (S.notes t) j)).gone l = (S.cntS t true).gone l := by simp [St.pstF, hsame]
      have hh2 : ((S.cntS t true).pstF (doneTo (S.cntS t true) (S.notes t) j)).hist l = (S.cntS t true).hist l := by simp [St.pstF, hsame]
      have hnS : ((S.cntS t true).pstF (doneTo (S.cntS t true) (S.notes t) j)).n = S.n := St.cntS_n S t true
      have hsum := HS2.out.sum l
      have HPER := fun k hk w2 (hI2 : IsRef w2 base A1 ((S.cntS t true).pstF (doneTo (S.cntS t true) (S.notes t) j))) => Lib.hid (rpersist_any w2 base M A1 ((S.cntS t true).pstF (doneTo (S.cntS t true) (S.notes t) j)) l k hI2 hOk hM (by rw [hnS]; exact hln) hk)
      rw [hh2, e1] at HPER
      have HST : Hid (((S.cntS t true).pstF (doneTo (S.cntS t true) (S.notes t) j)).pst l (pos - (S.cntS t true).gone l) = (S.cntS t true).pstF (doneTo (S.cntS t true) (S.notes t) (j + 1))) := by
        unfold Hid
        rw [pstF_pst _ _ _ _ hsame, hsucc, hkof]
      obtain ⟨wa, hwa⟩ : ∃ wa, wa = wr.alloc (.cells #[.int .i64 (l : Int), .int .i64 (pos : Int)] 124 (0, 0)) := ⟨_, rfl⟩
      have hIa : IsRef wa base A1 ((S.cntS t true).pstF (doneTo (S.cntS t true) (S.notes t) j)) := by rw [hwa]; exact hI.below ((Below.refl _ _).alloc (Nat.le_refl _) _) (Nat.le_refl _)
      have hOa : Only (fun b => b = A.d ∨ b = A.lb) w1 wa := by rw [hwa]; exact hO.alloc _
      have a0 : wa.cell? ⟨wr.heap.size, 0, none⟩ = some (.int .i64 (l : Int)) := by rw [hwa]; exact new_cell wr _ _ 0 rfl
      have a1 : wa.cell? ⟨wr.heap.size, 1, none⟩ = some (.int .i64 (pos : Int)) := by rw [hwa]; exact new_cell wr _ _ 1 rfl
      have c0 := RB.c0 hIa.dev
      have cg := hIa.lines.cell (o := l * 10 + 9) (by rw [hnS]; omega)
      rw [rl_gone, hg2] at cg
      rw [hnS] at c0
      rw [e1, e2] at c0
      rw [e2] at cg
      generalize hgn : (S.cntS t true).gone l = gn at *
      have hli : (l : Int) < (S.n : Int) := by omega
      have hn1 : S.n ≤ 4096 := by have := HS2.out.n1; rw [HSD.out.n] at this; exact this
      have HIa := Lib.hid hIa
      have HOa := Lib.hid hOa
      have HWA := Lib.hid hwa
      have HE1 := Lib.hid e1
      have HE2 := Lib.hid e2
      have HPO := Lib.hid hpos
      have hwl : IntKind.i64.wrap (l : Int) = (l : Int) := IntWalk.i64_in _ ⟨by omega, by omega⟩
      have hl0 : (0 : Int) ≤ (l : Int) := by omega
      clear hI hO hsame hsucc hkof p1 p2 hmem hgc hblk hg2 hh2 hIa hOa hwa e1 e2 hgn hkeys
      by_cases hpg : gn < pos
      · obtain ⟨kk, hkk⟩ : ∃ kk, pos - gn = kk := ⟨_, rfl⟩
        rw [hkk] at HST
        have HP := fun w2 hI2 => HPER kk (by omega) w2 hI2
        have hd : (pos : Int) - (gn : Int) = (kk : Int) := by omega
        have hk0 : (0 : Int) < (kk : Int) := by omega
        have hwk : IntKind.i64.wrap (kk : Int) = (kk : Int) := IntWalk.i64_in _ ⟨by omega, by omega⟩
        clear hkk HPER hpg
        go_wp2
        rw [← HWA.out]
        go_quiet (fail)
        go_wp2_with (go_at_call 79; refine ((HP _ (HIa.out.below (below_drewN _ _ _) (Nat.le_refl _))).out).mono ?_; rintro e w2 ⟨rfl, HZ⟩)
        go_roundw
        case rel =>
          refine ⟨j + 1, by omega, by go_num, ?_⟩
          obtain ⟨A2, b1, b2, b3, b4⟩ := HZ.out
          exact Lib.hid ⟨A2, b1.trans HE1.out, b2.trans HE2.out, by rw [← HST.out]; exact b3, (HOa.out.drewN _).trans (b4.mono fun b hb => by rw [HE1.out, HE2.out] at hb; exact hb)⟩
        case measure => simp [intOf]; omega
      · have hz : pos - gn = 0 := by omega
        rw [hz] at HST
        have HS0 : Hid ((S.cntS t true).pstF (doneTo (S.cntS t true) (S.notes t) j) = (S.cntS t true).pstF (doneTo (S.cntS t true) (S.notes t) (j + 1))) := by
          have e1 : ((S.cntS t true).pstF (doneTo (S.cntS t true) (S.notes t) j)).pst l 0 = (S.cntS t true).pstF (doneTo (S.cntS t true) (S.notes t) j) := by
            simp [St.pst, applyW]
          unfold Hid
          rw [← HST.out, e1]
        have hk0 : ¬ (0 : Int) < (pos : Int) - (gn : Int) := by omega
        have hwk : IntKind.i64.wrap ((pos : Int) - (gn : Int)) = (pos : Int) - (gn : Int) := IntWalk.i64_in _ ⟨by omega, by omega⟩
        clear hz HPER hpg
        go_wp2
        rw [← HWA.out]
        go_quiet (fail)
        go_wp2
        go_roundw
        case rel =>
          refine ⟨j + 1, by omega, by go_num, ?_⟩
          exact Lib.hid ⟨A1, HE1.out, HE2.out, by rw [← HS0.out]; exact HIa.out.below (below_drewN _ _ _) (Nat.le_refl _), HOa.out.drewN _⟩
        case measure => simp [intOf]; omega
    · have hjn : j = n := by omega
      subst hjn
      obtain ⟨A1, e1, e2, hI, hO⟩ := HR.out
      have HFIN : Hid (RStep w (wr.setCell ⟨A.d, 1 + t, none⟩ (.slice none 0 0)) base A (S.fenceS t)) := by
        have h1 := hI.noteSet ht (.slice none 0 0) [] (Only.refl _ _) (World.ownsRow_nil wr base _ 2) (by intro e; cases e) (by intro e; cases e)
        rw [e1] at h1
        obtain ⟨A2, b1, b2, b3, b4⟩ := h1
        refine ⟨A2, b1.trans e1, b2.trans e2, ?_, ((HQ.out.2.mono fun b hb => .inl hb).trans hO).trans (b4.mono fun b hb => by rw [e1, e2] at hb; exact hb)⟩
        rw [HE.out]
        have e3 : doneTo (S.cntS t true) (S.notes t) j = S.kof (S.notes t) := by
          rw [← HN.out, doneTo_all]
          funext i
          unfold St.kof
          rw [HSD.out.gone]
        rw [e3] at b3
        exact b3
      have ct := hI.dev.cell (o := 1 + t) (by omega)
      have zt := hI.dev.frozen (1 + t)
      rw [e1] at ct zt
      generalize refG A1 _ (1 + t) = old at ct
      clear hI hO e1 e2
      go_wp2
      go_end0
      exact ⟨rfl, HFIN⟩
theorem rfence_any (w : World) (base M : Nat) (A : RAdr) (S : St) (t : Nat) (h : IsRef w base A S) (hS : S.Ok M) (hM : M ≤ 1000000) (ht : t < 8) (hS' : (S.cntS t true).Ok M) :
    Calls Try.prog 50 #[.pointer (some ⟨A.d, 0, none⟩), .int .i64 (t : Int)] w fun r w' => r = .returned (.tuple #[]) ∧ Hid (RStep w w' base A (S.fenceS t)) := by
  cases hc : S.cnt true
  · have HC := Lib.hid (rcounted_any w A S t true h.dev ht (by have := hS.ex; omega) hS.left)
    have HD := Lib.hid h
    have HE : Hid (S.fenceS t = S.cntS t true) := by simp only [Hid, St.fenceS]; rw [hc]; rfl
    rw [hc] at HC
    clear h hS hc hS'
    go_enter Try.func50, Try.ntmps50
    go_wp2_with (go_at_call 76; refine HC.out.mono ?_; rintro e w1 ⟨rfl, HQ⟩)
    try simp only [Exit.inBlock, Exit.then]
    refine bodyPost_ret (results_none rfl _ _ _) rfl ?_
    exact ⟨rfl, Lib.hid (by rw [HE.out]; exact HD.out.ctlStep HQ.out.1 HQ.out.2 (SameData.cntS S t true))⟩
  · exact rfence_yes w base M A S t h hS hM ht hc hS'
end Go.Proofs.Ytbonponclcehiaa.Dev
/-
  THE REFERENCE's DEVICE: Flush.
-/
namespace Go.Proofs.Ytbonponclcehiaa.Dev
open Go.ChangeShapes Go.WideShapes Go.ChangeAt Go.RowKit Go.Proofs.Ytbonponclcehiaa.Mem Go.Proofs.Ytbonponclcehiaa.Args Go.Proofs.Ytbonponclcehiaa.Own
theorem infoNote : (Try.prog.info? 124).map (fun i => (i.zero, i.size, i.bytes)) = some (some (.agg #[.int .i64 0, .int .i64 0]), 2, 16) := by kernel_rfl
theorem note_one (o x : Nat) : ∀ u ∈ [Value.int .i64 (o : Int), .int .i64 (x : Int)], u.oneCell' = true := by
  intro u h
  simp only [List.mem_cons, List.not_mem_nil, or_false] at h
  rcases h with rfl | rfl <;> rfl
def keep (l : List (Nat × Nat)) (k j : Nat) : List (Nat × Nat) := (l.take j).filter fun p => p.1 != k
theorem keep_succ {l : List (Nat × Nat)} {k j : Nat} (hj : j < l.length) : keep l k (j + 1) = if (l[j]).1 = k then keep l k j else keep l k j ++ [l[j]] := by
  unfold keep
  rw [List.take_succ_eq_append_getElem hj, List.filter_append]
  by_cases e : (l[j]).1 = k
  · simp [e]
  · have : (l[j].1 != k) = true := by simpa using e
    simp [e, this]
theorem keep_len (l : List (Nat × Nat)) (k j : Nat) : (keep l k j).length ≤ l.length := by
  unfold keep
  exact Nat.le_trans (List.length_filter_le _ _) (List.length_take_le' _ _)
theorem keep_all (l : List (Nat × Nat)) (k : Nat) : keep l k l.length = l.filter fun p => p.1 != k := by
  unfold keep; rw [List.take_length]
set_option maxRecDepth 100000 in
set_option maxHeartbeats 1000000 in
theorem rflush_yes (w : World) (base M : Nat) (A : RAdr) (S : St) (t o : Nat) (h : IsRef w base A S) (hS : S.Ok M) (hM : M ≤ 1000000) (ht : t < 8) (ho : o < 18446744073709551616) (hc : S.cnt (S.flushV o) = true) (hS' : (S.cntS t true).Ok M) :
    Calls Try.prog 49 #[.pointer (some ⟨A.d, 0, none⟩), .int .i64 (t : Int), .int .u64 (o : Int)] w fun r w' => r = .returned (.tuple #[]) ∧ Hid (RStep w w' base A (S.flushS t o)) := by
  obtain ⟨i0, hi, hz0, hz1, hz2⟩ := info_parts infoNote
  have HI := Lib.hid hi
  have HZ0 := Lib.hid hz0
  have HZ1 := Lib.hid hz1
  have HZ2 := Lib.hid hz2
  have hv : S.flushV o = true := by simp [St.cnt] at hc; exact hc.1.2
  have hkn := St.flushV_lt hv
  have HC := Lib.hid (rcounted_any w A S t true h.dev ht (by have := hS.ex; omega) hS.left)
  have HD := Lib.hid h
  have HS2 := Lib.hid hS'
  have HSD := Lib.hid (SameData.cntS S t true)
  have hn := hS.n1
  have hcntN := hS.cnt t
  obtain ⟨k, hkk⟩ : ∃ k, o / 64 = k := ⟨_, rfl⟩
  have HE : Hid (S.flushS t o = (S.cntS t true).note t k (S.gone k + (S.hist k).length)) := by simp only [Hid, St.flushS]; rw [if_pos hc, hv, hkk]
  rw [hkk] at hkn
  rw [hv] at hc
  rw [hc] at HC
  have hd : (o : Int) / 64 = (k : Int) := by omega
  have hlt2 : (k : Int) < (S.n : Int) := by omega
  have hkw : IntKind.i64.wrap (k : Int) = (k : Int) := IntWalk.i64_in _ ⟨by omega, by omega⟩
  have ht8 : (t : Int) < 8 := by omega
  have c00 := RB.c0 h.dev
  obtain ⟨C, c, hCv, q1, q2, q3, q4⟩ := (h.notes t ht).1.form
  have HCV := Lib.hid hCv
  have HQ4 := Lib.hid q4
  unfold maxLen at q2
  obtain ⟨n, hnn⟩ : ∃ n, (S.notes t).length = n := ⟨_, rfl⟩
  rw [hnn] at q1 hcntN
  have HN := Lib.hid hnn
  have hld := h.dev.lt
  clear h hS hS' hv hc hkk hi hz0 hz1 hz2 hCv q4 hnn
  go_enter Try.func49, Try.ntmps49
  go_wp2_with (go_at_call 76; refine HC.out.mono ?_; rintro e w1 ⟨rfl, HQ⟩; have cn := HQ.out.1.cell (o := 1 + t) (by omega); rw [refG_note _ _ ht, HCV.out, HN.out] at cn; have HI1 := Lib.hid (HD.out.ctl HQ.out.1 HQ.out.2 (SameData.cntS S t true)); have hld1 := HQ.out.1.lt)
  have hww := HQ.out.2.size
  clear cn c00
  go_loopw [7, 34] (fun v i wr => ∃ j : Nat, j ≤ n ∧ i = .int .i64 j ∧ Hid (Row2 wr w1.heap.size 124 v (keep (S.notes t) k j).length (ncells (keep (S.notes t) k j)) ∧ Only (fun _ => False) w1 wr)) (fun _ i _ => n - (intOf i).toNat)
  case atStart => exact ⟨0, by omega, rfl, Lib.hid ⟨World.ownsRow_made w1 #[] 0 (Nat.le_refl _) (by simp [maxLen]) rfl, (Only.refl _ _).alloc _⟩⟩
  case round =>
    obtain ⟨j, hj, rfl, HR⟩ := hrel
    by_cases hlt : j < n
    · have hjl : j < (S.notes t).length := by rw [HN.out]; exact hlt
      obtain ⟨p1, p2⟩ := ncells_at (S.notes t) j hjl
      have hsucc := keep_succ (k := k) hjl
      have hkl := keep_len (S.notes t) k j
      rw [HN.out] at hkl
      generalize (S.notes t)[j] = pr at *
      obtain ⟨l, pos⟩ := pr
      simp only at p1 p2 hsucc
      obtain ⟨g, hCg, hgl, hgc⟩ : ∃ g, C = some ⟨g, 0, none⟩ ∧ (A.nv t).ownBlock = some g ∧ ∀ o, o < n * 2 → w.cell? ⟨g, o, none⟩ = (ncells (S.notes t))[o]? := by
        rcases hC : C with _ | ad
        · have := q3 hC; omega
        · have hob : (A.nv t).ownBlock = some ad.block := by rw [HCV.out, hC]; rfl
          obtain ⟨h5, h6⟩ := HQ4.out ad.block hob
          rw [HN.out] at h6
          exact ⟨ad.block, by rw [← hC]; exact h5, hob, h6⟩
      subst hCg
      have hgw := ((HD.out.notes t ht).1.lt g hgl).2
      have hgd : g ≠ A.d := fun e => (HD.out.notes t ht).2.1 (by rw [hgl, e])
      have hblk : wr.heap[g]? = w.heap[g]? := (HR.out.2.block g (Nat.lt_of_lt_of_le hgw hww) (fun f => f)).trans (HQ.out.2.block g hgw hgd)
      have n0 : wr.cell? ⟨g, j * 2, none⟩ = some (.int .i64 (l : Int)) := by rw [World.cell?_of_block (w := w) hblk, hgc _ (by omega), p1]
      have n1 : wr.cell? ⟨g, j * 2 + 1, none⟩ = some (.int .i64 (pos : Int)) := by rw [World.cell?_of_block (w := w) hblk, hgc _ (by omega), p2]
      clear p1 p2 hgc hblk
      by_cases hlk : l = k
      · have HS := Lib.hid (hsucc.trans (if_pos hlk))
        have hb : ((l : Int) != (k : Int)) = false := by simp; omega
        clear hsucc hlk
        go_wp2
        go_roundw
        case rel => exact ⟨j + 1, by omega, by go_num, Lib.hid ⟨by rw [HS.out]; exact HR.out.1.of_block (fun g hg => Below.heap_alloc _ _ _ (HR.out.1.lt g hg).2), HR.out.2.alloc _⟩⟩
        case measure => simp [intOf]; omega
      · have HS := Lib.hid (hsucc.trans (if_neg hlk))
        have hb : ((l : Int) != (k : Int)) = true := by simp; omega
        have hsz := HR.out.2.size
        clear hsucc hlk
        go_wp2_with (at_builtin; refine wpList_append_lies _ rfl _ _ 87 rfl w1.heap.size 124 i0 (.agg #[.int .i64 0, .int .i64 0]) 2 16 Try.underlying87 HI.out HZ0.out HZ1.out HZ2.out rfl (by decide) u7 (keep (S.notes t) k j).length (ncells (keep (S.notes t) k j)) rfl (World.ownsRow.alloc (World.ownsRow.alloc HR.out.1 _) _) ⟨wr.heap.size + 1, 0, none⟩ 1 1 [.int .i64 (l : Int), .int .i64 (pos : Int)] rfl rfl (new_cells _ _ _ _ (by simp) _ rfl) (note_one l pos) (by decide) (by unfold maxLen; omega) (by omega) (by simp; omega) (wr.heap.size + 2) (by simp) ?_; intro gb cap w2 hown2 hgr2 hob2 hlt2; have O2 : Only (fun _ => False) w1 w2 := (((HR.out.2).alloc _).alloc _).trans' (G := fun b => w1.heap.size ≤ b) (Only.ofGrown hgr2 (fun k hk => .inl (HR.out.1.lt k hk).1)) (fun b hb => .inr hb); have HZ := Lib.hid (And.intro hown2 O2); clear hown2 hgr2 hob2 hlt2 O2)
        go_roundw
        case rel => exact ⟨j + 1, by omega, by go_num, Lib.hid ⟨by rw [HS.out, ncells_append, List.length_append]; exact HZ.out.1, HZ.out.2⟩⟩
        case measure => simp [intOf]; omega
    · have hjn : j = n := by omega
      subst hjn
      have HKA := Lib.hid (show keep (S.notes t) k j = (S.notes t).filter (fun p => p.1 != k) by rw [← HN.out]; exact keep_all _ _)
      have I2 := HI1.out.only HR.out.2 (fun _ f => f.elim)
      obtain ⟨C2, c2, hC2, _, _, hp2, hh2, hg2, _⟩ := I2.line (k := k) (by rw [HSD.out.n]; exact hkn)
      have c0 := RB.c0 I2.dev
      rw [HSD.out.n] at c0
      have hsum := HS2.out.sum k
      have hkl := keep_len (S.notes t) k j
      rw [HN.out] at hkl
      have cT := I2.dev.cell (o := 1 + t) (by omega)
      have zT := I2.dev.frozen (1 + t)
      have HI2 := Lib.hid I2
      generalize hgn : (S.cntS t true).gone k = gn at *
      generalize hhn : ((S.cntS t true).hist k).length = hn' at *
      have HGN := Lib.hid hgn
      have HHN := Lib.hid hhn
      have hws : IntKind.i64.wrap ((gn : Int) + (hn' : Int)) = (gn : Int) + (hn' : Int) := IntWalk.i64_in _ ⟨by omega, by omega⟩
      have hk0 : (0 : Int) ≤ (k : Int) := by omega
      have lgd : A.d < wr.heap.size := I2.dev.lt
      have lgl : A.lb < wr.heap.size := I2.lines.lt
      have ld1 : A.d < w1.heap.size := hld1
      have ll1 : A.lb < w1.heap.size := HI1.out.lines.lt
      have ad : u7.ownBlock ≠ some A.d := fun e => by have := (HR.out.1.lt _ e).1; omega
      have al : u7.ownBlock ≠ some A.lb := fun e => by have := (HR.out.1.lt _ e).1; omega
      have HDL := Lib.hid HD.out.dl
      have HAD := Lib.hid ad
      have HAL := Lib.hid al
      have hsz := HR.out.2.size
      obtain ⟨m7, hm7⟩ : ∃ m7, (keep (S.notes t) k j).length = m7 := ⟨_, rfl⟩
      have HOW := Lib.hid HR.out.1
      rw [hm7] at HOW hkl
      have HM7 := Lib.hid hm7
      generalize hold : refG A (S.cntS t true) (1 + t) = old at *
      clear hgn hhn hp2 hC2 I2 hm7 ad al hold
      go_wp2_with fail
      go_region_held3 (fun w' => w'.cell? ⟨A.d, 0, none⟩ = some (.slice (some ⟨A.lb, 0, none⟩) S.n S.n) ∧ w'.cell? ⟨A.lb, k * 10 + 8, none⟩ = some (.slice C2 hn' c2) ∧ w'.cell? ⟨A.lb, k * 10 + 9, none⟩ = some (.int .i64 (gn : Int)))
        (first
          | go_keep
          | (go_split_ands
             refine ⟨?_, ?_, ?_⟩
             · (rw [hgrow.cell_far _ (by simp; omega) (Ne.symm HAD.out)]; assumption)
             · (rw [hgrow.cell_far _ (by simp; omega) (Ne.symm HAL.out)]; assumption)
             · (rw [hgrow.cell_far _ (by simp; omega) (Ne.symm HAL.out)]; assumption))
          | (go_split_ands
             refine ⟨?_, ?_, ?_⟩
             · (rw [World.cell?_setCell_other _ _ _ _ (fun e => by have := congrArg Addr.off e; simp at this)]; assumption)
             · (rw [World.cell?_setCell_other _ _ _ _ (fun e => HDL.out (congrArg Addr.block e))]; assumption)
             · (rw [World.cell?_setCell_other _ _ _ _ (fun e => HDL.out (congrArg Addr.block e))]; assumption)))
        ((refine step_append_lies _ (by rfl) _ _ _ (by rfl) w1.heap.size 124 i0 _ 2 16 Try.underlying87 HI.out HZ0.out HZ1.out HZ2.out rfl (by omega) u7 m7 (ncells (keep (S.notes t) k j)) (by rfl) ((World.ownsRow.alloc HOW.out _).drew)
            ⟨wr.heap.size, 0, none⟩ 1 1 [.int .i64 (k : Int), .int .i64 ((gn : Int) + (hn' : Int))] (by rfl) (by rfl) (World.news_of_block (cs := #[.int .i64 (k : Int), .int .i64 ((gn : Int) + (hn' : Int))]) (t := 124) (fr := (0, 0)) (heap_alloc_new wr _)) (by simp [Value.oneCell'])
            (by omega) (by unfold maxLen; omega) (by omega) (by simp; omega) (wr.heap.size + 1) (by simp) ?_; intro gg cap w2 hown2 hgrow hat hlt; have zT2 : w2.frozen? ⟨A.d, 1 + t, none⟩ = false := (World.frozen?_of_block (w := wr) ((hgrow.block A.d (by simp; omega) (Ne.symm HAD.out)).trans (Below.heap_alloc wr _ _ lgd))).trans zT; have cT2 : w2.cell? ⟨A.d, 1 + t, none⟩ = some old := (World.cell?_of_block (w := wr) ((hgrow.block A.d (by simp; omega) (Ne.symm HAD.out)).trans (Below.heap_alloc wr _ _ lgd))).trans cT))
      go_end0
      have hgg := World.ownsRow.lt hown2 gg rfl
      have O2 : Only (fun _ => False) w1 w2 := ((HR.out.2.alloc _).drew).trans' (G := fun b => w1.heap.size ≤ b) (Only.ofGrown hgrow (fun k hk => .inl (HR.out.1.lt k hk).1)) (fun b hb => .inr hb)
      have hbw : base ≤ w1.heap.size := Nat.le_trans HD.out.bd (Nat.le_trans (Nat.le_of_lt HD.out.dev.lt) hww)
      have h1 := HI1.out.noteSet ht (.slice (some ⟨gg, 0, none⟩) (m7 + 1) cap) ((S.notes t).filter (fun p => p.1 != k) ++ [(k, gn + hn')]) O2 (by
        refine Row2.mono ?_ hbw
        rw [← HKA.out, List.length_append, HM7.out, ncells_append]
        exact hown2) (fun e => by have := Option.some.inj e; simp at this; omega) (fun e => by have := Option.some.inj e; simp at this; omega)
      refine ⟨rfl, Lib.hid ?_⟩
      refine RStep.pre1 HQ.out.2 ?_
      rw [HE.out, ← HSD.out.gone, ← HSD.out.hist, HGN.out, HHN.out]
      unfold St.note
      rw [HSD.out.notes]
      rw [HSD.out.notes] at h1
      exact h1
theorem rflush_no (w : World) (base M : Nat) (A : RAdr) (S : St) (t o : Nat) (h : IsRef w base A S) (hS : S.Ok M) (hM : M ≤ 1000000) (ht : t < 8) (ho : o < 18446744073709551616) (hc : S.cnt (S.flushV o) = false) :
    Calls Try.prog 49 #[.pointer (some ⟨A.d, 0, none⟩), .int .i64 (t : Int), .int .u64 (o : Int)] w fun r w' => r = .returned (.tuple #[]) ∧ Hid (RStep w w' base A (S.flushS t o)) := by
  have HC := Lib.hid (rcounted_any w A S t (S.flushV o) h.dev ht (by have := hS.ex; omega) hS.left)
  have HD := Lib.hid h
  have HE : Hid (S.flushS t o = S.cntS t (S.flushV o)) := by simp only [Hid, St.flushS]; rw [hc]; rfl
  rw [hc] at HC
  have hn := hS.n1
  have c0 := RB.c0 h.dev
  obtain ⟨k, hkk⟩ : ∃ k, o / 64 = k := ⟨_, rfl⟩
  have hd : (o : Int) / 64 = (k : Int) := by omega
  have hv : S.flushV o = decide (k < S.n) := by
    unfold St.flushV
    by_cases h1 : o < S.n * 64
    · rw [decide_eq_true h1, decide_eq_true (show k < S.n by omega)]
    · rw [decide_eq_false h1, decide_eq_false (show ¬ k < S.n by omega)]
  generalize S.flushV o = v at *
  clear h hS hc hkk
  by_cases hlt : k < S.n
  · rw [decide_eq_true hlt] at hv
    subst hv
    have hl2 : (k : Int) < (S.n : Int) := by omega
    go_enter Try.func49, Try.ntmps49
    go_wp2_with (go_at_call 76; refine HC.out.mono ?_; rintro e w1 ⟨rfl, HQ⟩)
    try simp only [Exit.inBlock, Exit.then]
    refine bodyPost_ret (results_none rfl _ _ _) rfl ?_
    exact ⟨rfl, Lib.hid (by rw [HE.out]; exact HD.out.ctlStep HQ.out.1 HQ.out.2 (SameData.cntS S t _))⟩
  · rw [decide_eq_false hlt] at hv
    subst hv
    have hl2 : ¬ (k : Int) < (S.n : Int) := by omega
    go_enter Try.func49, Try.ntmps49
    go_wp2_with (go_at_call 76; refine HC.out.mono ?_; rintro e w1 ⟨rfl, HQ⟩)
    try simp only [Exit.inBlock, Exit.then]
    refine bodyPost_ret (results_none rfl _ _ _) rfl ?_
    exact ⟨rfl, Lib.hid (by rw [HE.out]; exact HD.out.ctlStep HQ.out.1 HQ.out.2 (SameData.cntS S t _))⟩
theorem rflush_any (w : World) (base M : Nat) (A : RAdr) (S : St) (t o : Nat) (h : IsRef w base A S) (hS : S.Ok M) (hM : M ≤ 1000000) (ht : t < 8) (ho : o < 18446744073709551616) (hS' : (S.cntS t (S.flushV o)).Ok M) :
    Calls Try.prog 49 #[.pointer (some ⟨A.d, 0, none⟩), .int .i64 (t : Int), .int .u64 (o : Int)] w fun r w' => r = .returned (.tuple #[]) ∧ Hid (RStep w w' base A (S.flushS t o)) := by
  cases hc : S.cnt (S.flushV o)
  · exact rflush_no w base M A S t o h hS hM ht ho hc
  · have hv : S.flushV o = true := by simp [St.cnt] at hc; exact hc.1.2
    rw [hv] at hS'
    exact rflush_yes w base M A S t o h hS hM ht ho hc hS'
end Go.Proofs.Ytbonponclcehiaa.Dev
/-
  THE REFERENCE's DEVICE: Content.
-/
namespace Go.Proofs.Ytbonponclcehiaa.Dev
open Go.ChangeShapes Go.WideShapes Go.ChangeAt Go.RowKit Go.Proofs.Ytbonponclcehiaa.Mem Go.Proofs.Ytbonponclcehiaa.Args Go.Proofs.Ytbonponclcehiaa.Own
def kpick (S : St) (kl : List Nat) (i : Nat) : Nat := if 0 < (S.hist i).length then kl.getD (dirtyTo S i).length 0 else 0
theorem ixi0 (a b c d e f g h : Int) (w : World) : (Instr.index 82 (.agg #[.int .u64 a, .int .u64 b, .int .u64 c, .int .u64 d, .int .u64 e, .int .u64 f, .int .u64 g, .int .u64 h]) (.int .i64 0)).run Try.prog w = .ok (.int .u64 a) w := by kernel_rfl
theorem ixi1 (a b c d e f g h : Int) (w : World) : (Instr.index 82 (.agg #[.int .u64 a, .int .u64 b, .int .u64 c, .int .u64 d, .int .u64 e, .int .u64 f, .int .u64 g, .int .u64 h]) (.int .i64 1)).run Try.prog w = .ok (.int .u64 b) w := by kernel_rfl
theorem ixi2 (a b c d e f g h : Int) (w : World) : (Instr.index 82 (.agg #[.int .u64 a, .int .u64 b, .int .u64 c, .int .u64 d, .int .u64 e, .int .u64 f, .int .u64 g, .int .u64 h]) (.int .i64 2)).run Try.prog w = .ok (.int .u64 c) w := by kernel_rfl
theorem ixi3 (a b c d e f g h : Int) (w : World) : (Instr.index 82 (.agg #[.int .u64 a, .int .u64 b, .int .u64 c, .int .u64 d, .int .u64 e, .int .u64 f, .int .u64 g, .int .u64 h]) (.int .i64 3)).run Try.prog w = .ok (.int .u64 d) w := by kernel_rfl
theorem ixi4 (a b c d e f g h : Int) (w : World) : (Instr.index 82 (.agg #[.int .u64 a, .int .u64 b, .int .u64 c, .int .u64 d, .int .u64 e, .int .u64 f, .int .u64 g, .int .u64 h]) (.int .i64 4)).run Try.prog w = .ok (.int .u64 e) w := by kernel_rfl
theorem ixi5 (a b c d e f g h : Int) (w : World) : (Instr.index 82 (.agg #[.int .u64 a, .int .u64 b, .int .u64 c, .int .u64 d, .int .u64 e, .int .u64 f, .int .u64 g, .int .u64 h]) (.int .i64 5)).run Try.prog w = .ok (.int .u64 f) w := by kernel_rfl
theorem ixi6 (a b c d e f g h : Int) (w : World) : (Instr.index 82 (.agg #[.int .u64 a, .int .u64 b, .int .u64 c, .int .u64 d, .int .u64 e, .int .u64 f, .int .u64 g, .int .u64 h]) (.int .i64 6)).run Try.prog w = .ok (.int .u64 g) w := by kernel_rfl
theorem ixi7 (a b c d e f g h : Int) (w : World) : (Instr.index 82 (.agg #[.int .u64 a, .int .u64 b, .int .u64 c, .int .u64 d, .int .u64 e, .int .u64 f, .int .u64 g, .int .u64 h]) (.int .i64 7)).run Try.prog w = .ok (.int .u64 h) w := by kernel_rfl
theorem index8i (f : Nat → Nat) (j : Nat) (hj : j < 8) (w : World) : (Instr.index 82 (.agg #[.int .u64 (f 0 : Int), .int .u64 (f 1 : Int), .int .u64 (f 2 : Int), .int .u64 (f 3 : Int), .int .u64 (f 4 : Int), .int .u64 (f 5 : Int), .int .u64 (f 6 : Int), .int .u64 (f 7 : Int)]) (.int .i64 (j : Int))).run Try.prog w = .ok (.int .u64 (f j : Int)) w := by
  have h : j = 0 ∨ j = 1 ∨ j = 2 ∨ j = 3 ∨ j = 4 ∨ j = 5 ∨ j = 6 ∨ j = 7 := by omega
  rcases h with rfl | rfl | rfl | rfl | rfl | rfl | rfl | rfl
  · exact ixi0 (f 0) (f 1) (f 2) (f 3) (f 4) (f 5) (f 6) (f 7) w
  · exact ixi1 (f 0) (f 1) (f 2) (f 3) (f 4) (f 5) (f 6) (f 7) w
  · exact ixi2 (f 0) (f 1) (f 2) (f 3) (f 4) (f 5) (f 6) (f 7) w
  · exact ixi3 (f 0) (f 1) (f 2) (f 3) (f 4) (f 5) (f 6) (f 7) w
  · exact ixi4 (f 0) (f 1) (f 2) (f 3) (f 4) (f 5) (f 6) (f 7) w
  · exact ixi5 (f 0) (f 1) (f 2) (f 3) (f 4) (f 5) (f 6) (f 7) w
  · exact ixi6 (f 0) (f 1) (f 2) (f 3) (f 4) (f 5) (f 6) (f 7) w
  · exact ixi7 (f 0) (f 1) (f 2) (f 3) (f 4) (f 5) (f 6) (f 7) w
def byteK (x b : Nat) : Int := ((x / 256 ^ b % 256 : Nat) : Int)
def bytesTo (x b : Nat) : List Int := (List.range b).map (byteK x)
theorem bytesTo_succ (x b : Nat) : bytesTo x (b + 1) = bytesTo x b ++ [byteK x b] := by
  simp [bytesTo, List.range_succ]
theorem bytesTo_len (x b : Nat) : (bytesTo x b).length = b := by simp [bytesTo]
theorem bytesTo_all (x : Nat) (hx : x < 18446744073709551616) : bytesTo x 8 = wbytes x := by
  have h : List.range 8 = [0, 1, 2, 3, 4, 5, 6, 7] := rfl
  unfold bytesTo wbytes byteK
  rw [h]
  simp only [List.map_cons, List.map_nil]
  have e7 : x / 256 ^ 7 % 256 = x / 72057594037927936 := by
    rw [show (256 : Nat) ^ 7 = 72057594037927936 from rfl]
    exact Nat.mod_eq_of_lt (by omega)
  rw [e7]
  simp
set_option maxRecDepth 100000 in
set_option maxHeartbeats 2000000 in
theorem rcontent_any (w : World) (base M : Nat) (A : RAdr) (S : St) (K : Option Addr) (m cap B : Nat) (kl : List Nat) (h : IsRef w base A S) (hS : S.Ok M) (hM : M ≤ 1000000) (hl : kl.length = m) (hm : m ≤ 4096) (hr : IntsAt .i64 w B K (ints kl)) (hB : B ≤ w.heap.size) (hle : ∀ i, kpick S kl i ≤ (S.hist i).length) :
    Calls Try.prog 54 #[.pointer (some ⟨A.d, 0, none⟩), .slice K m cap] w fun e w' => ∃ v', e = .returned v' ∧ Hid (OwnInts .u8 5 w' w.heap.size v' (content S (kpick S kl) S.n) ∧ Below w.heap.size w w') := by
  obtain ⟨i0, hi, hz0, hz1, hz2⟩ := info_parts info8
  have HI := Lib.hid hi
  have HZ0 := Lib.hid hz0
  have HZ1 := Lib.hid hz1
  have HZ2 := Lib.hid hz2
  have HD := Lib.hid h
  have HSS := Lib.hid hS
  have c00 := RB.c0 h.dev
  obtain ⟨n, hn⟩ : ∃ n, S.n = n := ⟨_, rfl⟩
  have hn1 := hS.n1
  rw [hn] at hn1 c00 ⊢
  have HN := Lib.hid hn
  have HLE := Lib.hid hl
  have HRR := Lib.hid hr
  have HPL := Lib.hid hle
  clear hi hz0 hz1 hz2 h hS hn hl hr hle
  go_enter Try.func54, Try.ntmps54
  have hlt0 := HD.out.dev.lt
  go_wp2
  clear c00
  go_loopw [5, 6, 19] (fun v dd i wr => ∃ k : Nat, k ≤ n ∧ i = .int .i64 k ∧ dd = .int .i64 ((dirtyTo S k).length : Int) ∧ Hid (OwnInts .u8 5 wr w.heap.size v (content S (kpick S kl) k) ∧ Below w.heap.size w wr)) (fun _ _ i _ => n - (intOf i).toNat)
  case atStart => exact ⟨0, by omega, rfl, rfl, Lib.hid ⟨OwnInts.empty _ _ _ (Nat.le_refl _), (Below.refl _ _).alloc (Nat.le_refl _) _⟩⟩
  case round =>
    obtain ⟨k, hk, rfl, rfl, HR⟩ := hrel
    by_cases hlt : k < n
    · have I1 := HD.out.below HR.out.2 (Nat.le_refl _)
      have hkS : k < S.n := by rw [HN.out]; exact hlt
      obtain ⟨C, c, _, q1, q2, hp, hh, hg, hrow⟩ := I1.line hkS
      have hlb := I1.lines.lt
      have hkl : (k : Int) < (n : Int) := by omega
      have hdl := dirtyTo_len S k
      have hds := dirtyTo_succ S k
      have HCS := Lib.hid (content_succ S (kpick S kl) k)
      have HPK := Lib.hid (HPL.out k)
      have hsum := HSS.out.sum k
      have HWD := fun (w2 : World) (hb : Below wr.heap.size wr w2) (kk : Nat) hkk => Lib.hid (words_any w2 wr.heap.size kk (S.hist k).length c C (S.gone k : Int) (S.pers k) (S.hist k) rfl q1 q2 hkk (fun h0 => by
        obtain ⟨g, e1, e2, e3⟩ := hrow h0
        exact ⟨g, e1, e2, fun o ho => (hb.cell (p := ⟨g, o, none⟩) e2).trans (e3 o ho)⟩) hb.size (HSS.out.fine k))
      have d0 := hp 0 (by decide)
      have d1 := hp 1 (by decide)
      have d2 := hp 2 (by decide)
      have d3 := hp 3 (by decide)
      have d4 := hp 4 (by decide)
      have d5 := hp 5 (by decide)
      have d6 := hp 6 (by decide)
      have d7 := hp 7 (by decide)
      rw [Nat.add_zero] at d0
      have HAP := fun kk => Lib.hid (HSS.out.applied k kk)
      have hcase : (∃ x : Nat, 0 < (S.hist k).length ∧ (dirtyTo S k).length < m ∧ kpick S kl k = x ∧ (dirtyTo S (k + 1)).length = (dirtyTo S k).length + 1 ∧ ∃ ad, K = some ad ∧ wr.cell? (ad.add (dirtyTo S k).length) = some (.int .i64 (x : Int))) ∨
          (0 < (S.hist k).length ∧ m ≤ (dirtyTo S k).length ∧ kpick S kl k = 0 ∧ (dirtyTo S (k + 1)).length = (dirtyTo S k).length + 1) ∨ ((S.hist k).length = 0 ∧ kpick S kl k = 0 ∧ (dirtyTo S (k + 1)).length = (dirtyTo S k).length) := by
        by_cases h0 : 0 < (S.hist k).length
        · have hs1 : (dirtyTo S (k + 1)).length = (dirtyTo S k).length + 1 := by rw [hds, if_pos h0, List.length_append]; rfl
          by_cases h1 : (dirtyTo S k).length < m
          · left
            have hlk : (dirtyTo S k).length < kl.length := by rw [HLE.out]; exact h1
            obtain ⟨ad, e1, e2, e3⟩ := HRR.out (dirtyTo S k).length (by rw [ints_len]; exact hlk)
            refine ⟨kl.getD (dirtyTo S k).length 0, h0, h1, by unfold kpick; rw [if_pos h0], hs1, ad, e1, ?_⟩
            rw [HR.out.2.cell (p := ad.add _) (by rw [add_block]; omega), e3]
            simp [ints, List.getD, hlk]
          · right; left
            exact ⟨h0, by omega, by unfold kpick; rw [if_pos h0]; simp [List.getD, List.getElem?_eq_none (show kl.length ≤ (dirtyTo S k).length by rw [HLE.out]; omega)], hs1⟩
        · right; right
          exact ⟨by omega, by unfold kpick; rw [if_neg h0], by rw [hds, if_neg h0]⟩
      have hdl2 : (dirtyTo S k).length ≤ 4096 := by omega
      clear I1 hp hrow hds hdl
      generalize hcnt : (dirtyTo S k).length = cnt at *
      clear hcnt
      generalize hL : (S.hist k).length = L at *
      clear hL
      rcases hcase with ⟨x, h0, h1, hpk, hs1, ad, rfl, hcell⟩ | ⟨h0, h1, hpk, hs1⟩ | ⟨h0, hpk, hs1⟩
      · have h0i : (0 : Int) < (L : Int) := by omega
        have h1i : (cnt : Int) < (m : Int) := by omega
        have hcell2 : ∀ ob, (wr.alloc ob).cell? (ad.add cnt) = some (.int .i64 (x : Int)) := fun ob => Lib.cell?_alloc_some ob hcell
        have HS1 := Lib.hid hs1
        rw [hpk] at HPK HCS
        have HW := fun w2 hb => HWD w2 hb x HPK.out
        have HAPX := HAP x
        obtain ⟨F, hF⟩ : ∃ F, applyW (S.pers k) ((S.hist k).take x) = F := ⟨_, rfl⟩
        rw [hF] at HW HAPX HCS
        clear HWD hpk hs1 HAP hF
        generalize S.pers k = bp at *
        go_wp2_with (go_at_call 80; refine ((HW _ ((Below.refl _ _).alloc (Nat.le_refl _) _)).out).mono ?_; rintro e w2 ⟨he, hb⟩; simp only [words8, wordG] at he; subst he; have HB := Lib.hid (((Below.refl wr.heap.size wr).alloc (Nat.le_refl _) _).trans (hb.mono (by simp))); clear hb)
        go_loopw [5, 40] (fun v i wm => ∃ j : Nat, j ≤ 8 ∧ i = .int .i64 j ∧ Hid (OwnInts .u8 5 wm w.heap.size v (content S (kpick S kl) k ++ lbytes F j) ∧ Below w.heap.size w wm)) (fun _ i _ => 8 - (intOf i).toNat)
        case atStart => exact ⟨0, by omega, rfl, Lib.hid ⟨by simpa [lbytes] using HR.out.1.below HB.out, HR.out.2.trans (HB.out.mono HR.out.2.size)⟩⟩
        case round =>
          obtain ⟨j, hj, rfl, HM2⟩ := hrel
          by_cases hj8 : j < 8
          · have HX := index8i F j hj8
            have hFj := HAPX.out j
            have hj8i : (j : Int) < 8 := by omega
            generalize hX : F j = X at *
            have HXX := Lib.hid hX
            clear hX
            go_wp2
            go_loopw [5, 11, 12] (fun v y b wn => ∃ bb yy : Nat, bb ≤ 8 ∧ b = .int .i64 bb ∧ y = .int .u64 yy ∧ yy < 18446744073709551616 ∧ Hid (yy = X / 256 ^ bb ∧ OwnInts .u8 5 wn w.heap.size v (content S (kpick S kl) k ++ lbytes F j ++ bytesTo X bb) ∧ Below w.heap.size w wn)) (fun _ _ b _ => 8 - (intOf b).toNat)
            case atStart => exact ⟨0, X, by omega, rfl, rfl, hFj, Lib.hid ⟨by simp, by simpa [bytesTo] using HM2.out.1, HM2.out.2⟩⟩
            case round =>
              obtain ⟨bb, yy, hbb, rfl, rfl, hyy, HM3⟩ := hrel
              by_cases hb8 : bb < 8
              · have hb8i : (bb : Int) < 8 := by omega
                have hl1 := content_len S (kpick S kl) k
                have hl2 := lbytes_len F j
                have hl3 := bytesTo_len X bb
                have HLN : Hid ((content S (kpick S kl) k ++ lbytes F j ++ bytesTo X bb).length ≤ 300000) := by unfold Hid; rw [List.length_append, List.length_append, hl1, hl2, hl3]; omega
                clear hl1 hl2 hl3
                go_wp2_with (at_builtin; refine wpList_app (by simp [Region.wanted, yielded]) (.tmp 47) (.tmp 50) 22 rfl (v := u5) (B := wr.heap.size + 1) (c := 1) (A := some ⟨wr.heap.size, 0, none⟩) (zs := [(yy : Int) % 256]) Try.underlying22 HI.out HZ0.out HZ1.out HZ2.out rfl rfl (HM3.out.2.1.alloc _) rfl (IntsAt.new .u8 wr 5 (0, 0) _) rfl (by have := HLN.out; unfold maxLen; omega) (by have := HLN.out; omega) (Nat.le_trans HM3.out.2.2.size (by simp)) ?_; intro v2 w3 ho2 hg2 ha2; have hb2 := HM3.out.2.2.trans (((Below.refl w.heap.size _).alloc HM3.out.2.2.size _).trans ((HM3.out.2.1.alloc _).grownBelow hg2 (Nat.le_trans HM3.out.2.2.size (by simp)))); have HQ := Lib.hid (And.intro ho2 hb2); clear ho2 hg2 ha2 hb2)
                go_roundw
                case rel =>
                  refine ⟨bb + 1, yy / 256, by omega, by go_num, by go_num, by omega, Lib.hid ⟨?_, ?_, HQ.out.2⟩⟩
                  · rw [HM3.out.1, Nat.pow_succ, Nat.div_div_eq_div_mul]
                  · rw [bytesTo_succ, ← List.append_assoc]
                    have e1 : byteK X bb = (yy : Int) % 256 := by unfold byteK; rw [← HM3.out.1]; omega
                    rw [e1]; exact HQ.out.1
                case measure => simp [intOf]; omega
              · have hbe : bb = 8 := by omega
                subst hbe
                go_wp2
                go_roundw
                case rel =>
                  refine ⟨j + 1, by omega, by go_num, Lib.hid ⟨?_, HM3.out.2.2⟩⟩
                  rw [lbytes_succ, HXX.out, ← bytesTo_all X hFj, ← List.append_assoc]
                  exact HM3.out.2.1
                case measure => simp [intOf]; omega
          · have hje : j = 8 := by omega
            subst hje
            go_wp2
            go_roundw
            case rel => exact ⟨k + 1, by omega, by go_num, by rw [HS1.out]; go_num, Lib.hid ⟨by rw [HCS.out]; exact HM2.out.1, HM2.out.2⟩⟩
            case measure => simp [intOf]; omega
      · have h0i : (0 : Int) < (L : Int) := by omega
        have h1i : ¬ (cnt : Int) < (m : Int) := by omega
        have HS1 := Lib.hid hs1
        rw [hpk] at HPK HCS
        have HW := fun w2 hb => HWD w2 hb 0 HPK.out
        have HAPX := HAP 0
        obtain ⟨F, hF⟩ : ∃ F, applyW (S.pers k) ((S.hist k).take 0) = F := ⟨_, rfl⟩
        rw [hF] at HW HAPX HCS
        clear HWD hpk hs1 HAP hF
        generalize S.pers k = bp at *
        go_wp2_with (go_at_call 80; refine ((HW _ ((Below.refl _ _).alloc (Nat.le_refl _) _)).out).mono ?_; rintro e w2 ⟨he, hb⟩; simp only [words8, wordG] at he; subst he; have HB := Lib.hid (((Below.refl wr.heap.size wr).alloc (Nat.le_refl _) _).trans (hb.mono (by simp))); clear hb)
        go_loopw [5, 40] (fun v i wm => ∃ j : Nat, j ≤ 8 ∧ i = .int .i64 j ∧ Hid (OwnInts .u8 5 wm w.heap.size v (content S (kpick S kl) k ++ lbytes F j) ∧ Below w.heap.size w wm)) (fun _ i _ => 8 - (intOf i).toNat)
        case atStart => exact ⟨0, by omega, rfl, Lib.hid ⟨by simpa [lbytes] using HR.out.1.below HB.out, HR.out.2.trans (HB.out.mono HR.out.2.size)⟩⟩
        case round =>
          obtain ⟨j, hj, rfl, HM2⟩ := hrel
          by_cases hj8 : j < 8
          · have HX := index8i F j hj8
            have hFj := HAPX.out j
            have hj8i : (j : Int) < 8 := by omega
            generalize hX : F j = X at *
            have HXX := Lib.hid hX
            clear hX
            go_wp2
            go_loopw [5, 11, 12] (fun v y b wn => ∃ bb yy : Nat, bb ≤ 8 ∧ b = .int .i64 bb ∧ y = .int .u64 yy ∧ yy < 18446744073709551616 ∧ Hid (yy = X / 256 ^ bb ∧ OwnInts .u8 5 wn w.heap.size v (content S (kpick S kl) k ++ lbytes F j ++ bytesTo X bb) ∧ Below w.heap.size w wn)) (fun _ _ b _ => 8 - (intOf b).toNat)
            case atStart => exact ⟨0, X, by omega, rfl, rfl, hFj, Lib.hid ⟨by simp, by simpa [bytesTo] using HM2.out.1, HM2.out.2⟩⟩
            case round =>
              obtain ⟨bb, yy, hbb, rfl, rfl, hyy, HM3⟩ := hrel
              by_cases hb8 : bb < 8
              · have hb8i : (bb : Int) < 8 := by omega
                have hl1 := content_len S (kpick S kl) k
                have hl2 := lbytes_len F j
                have hl3 := bytesTo_len X bb
                have HLN : Hid ((content S (kpick S kl) k ++ lbytes F j ++ bytesTo X bb).length ≤ 300000) := by unfold Hid; rw [List.length_append, List.length_append, hl1, hl2, hl3]; omega
                clear hl1 hl2 hl3
                go_wp2_with (at_builtin; refine wpList_app (by simp [Region.wanted, yielded]) (.tmp 47) (.tmp 50) 22 rfl (v := u5) (B := wr.heap.size + 1) (c := 1) (A := some ⟨wr.heap.size, 0, none⟩) (zs := [(yy : Int) % 256]) Try.underlying22 HI.out HZ0.out HZ1.out HZ2.out rfl rfl (HM3.out.2.1.alloc _) rfl (IntsAt.new .u8 wr 5 (0, 0) _) rfl (by have := HLN.out; unfold maxLen; omega) (by have := HLN.out; omega) (Nat.le_trans HM3.out.2.2.size (by simp)) ?_; intro v2 w3 ho2 hg2 ha2; have hb2 := HM3.out.2.2.trans (((Below.refl w.heap.size _).alloc HM3.out.2.2.size _).trans ((HM3.out.2.1.alloc _).grownBelow hg2 (Nat.le_trans HM3.out.2.2.size (by simp)))); have HQ := Lib.hid (And.intro ho2 hb2); clear ho2 hg2 ha2 hb2)
                go_roundw
                case rel =>
                  refine ⟨bb + 1, yy / 256, by omega, by go_num, by go_num, by omega, Lib.hid ⟨?_, ?_, HQ.out.2⟩⟩
                  · rw [HM3.out.1, Nat.pow_succ, Nat.div_div_eq_div_mul]
                  · rw [bytesTo_succ, ← List.append_assoc]
                    have e1 : byteK X bb = (yy : Int) % 256 := by unfold byteK; rw [← HM3.out.1]; omega
                    rw [e1]; exact HQ.out.1
                case measure => simp [intOf]; omega
              · have hbe : bb = 8 := by omega
                subst hbe
                go_wp2
                go_roundw
                case rel =>
                  refine ⟨j + 1, by omega, by go_num, Lib.hid ⟨?_, HM3.out.2.2⟩⟩
                  rw [lbytes_succ, HXX.out, ← bytesTo_all X hFj, ← List.append_assoc]
                  exact HM3.out.2.1
                case measure => simp [intOf]; omega
          · have hje : j = 8 := by omega
            subst hje
            go_wp2
            go_roundw
            case rel => exact ⟨k + 1, by omega, by go_num, by rw [HS1.out]; go_num, Lib.hid ⟨by rw [HCS.out]; exact HM2.out.1, HM2.out.2⟩⟩
            case measure => simp [intOf]; omega
      · have h0i : ¬ (0 : Int) < (L : Int) := by omega
        have hL0 := Lib.hid h0
        clear h0
        have HS1 := Lib.hid hs1
        rw [hpk] at HPK HCS
        have HW := fun w2 hb => HWD w2 hb 0 HPK.out
        have HAPX := HAP 0
        obtain ⟨F, hF⟩ : ∃ F, applyW (S.pers k) ((S.hist k).take 0) = F := ⟨_, rfl⟩
        rw [hF] at HW HAPX HCS
        clear HWD hpk hs1 HAP hF
        generalize S.pers k = bp at *
        go_wp2_with (go_at_call 80; refine ((HW _ ((Below.refl _ _).alloc (Nat.le_refl _) _)).out).mono ?_; rintro e w2 ⟨he, hb⟩; simp only [words8, wordG] at he; subst he; have HB := Lib.hid (((Below.refl wr.heap.size wr).alloc (Nat.le_refl _) _).trans (hb.mono (by simp))); clear hb)
        go_loopw [5, 40] (fun v i wm => ∃ j : Nat, j ≤ 8 ∧ i = .int .i64 j ∧ Hid (OwnInts .u8 5 wm w.heap.size v (content S (kpick S kl) k ++ lbytes F j) ∧ Below w.heap.size w wm)) (fun _ i _ => 8 - (intOf i).toNat)
        case atStart => exact ⟨0, by omega, rfl, Lib.hid ⟨by simpa [lbytes] using HR.out.1.below HB.out, HR.out.2.trans (HB.out.mono HR.out.2.size)⟩⟩
        case round =>
          obtain ⟨j, hj, rfl, HM2⟩ := hrel
          by_cases hj8 : j < 8
          · have HX := index8i F j hj8
            have hFj := HAPX.out j
            have hj8i : (j : Int) < 8 := by omega
            generalize hX : F j = X at *
            have HXX := Lib.hid hX
            clear hX
            go_wp2
            go_loopw [5, 11, 12] (fun v y b wn => ∃ bb yy : Nat, bb ≤ 8 ∧ b = .int .i64 bb ∧ y = .int .u64 yy ∧ yy < 18446744073709551616 ∧ Hid (yy = X / 256 ^ bb ∧ OwnInts .u8 5 wn w.heap.size v (content S (kpick S kl) k ++ lbytes F j ++ bytesTo X bb) ∧ Below w.heap.size w wn)) (fun _ _ b _ => 8 - (intOf b).toNat)
            case atStart => exact ⟨0, X, by omega, rfl, rfl, hFj, Lib.hid ⟨by simp, by simpa [bytesTo] using HM2.out.1, HM2.out.2⟩⟩
            case round =>
              obtain ⟨bb, yy, hbb, rfl, rfl, hyy, HM3⟩ := hrel
              by_cases hb8 : bb < 8
              · have hb8i : (bb : Int) < 8 := by omega
                have hl1 := content_len S (kpick S kl) k
                have hl2 := lbytes_len F j
                have hl3 := bytesTo_len X bb
                have HLN : Hid ((content S (kpick S kl) k ++ lbytes F j ++ bytesTo X bb).length ≤ 300000) := by unfold Hid; rw [List.length_append, List.length_append, hl1, hl2, hl3]; omega
                clear hl1 hl2 hl3
                go_wp2_with (at_builtin; refine wpList_app (by simp [Region.wanted, yielded]) (.tmp 47) (.tmp 50) 22 rfl (v := u5) (B := wr.heap.size + 1) (c := 1) (A := some ⟨wr.heap.size, 0, none⟩) (zs := [(yy : Int) % 256]) Try.underlying22 HI.out HZ0.out HZ1.out HZ2.out rfl rfl (HM3.out.2.1.alloc _) rfl (IntsAt.new .u8 wr 5 (0, 0) _) rfl (by have := HLN.out; unfold maxLen; omega) (by have := HLN.out; omega) (Nat.le_trans HM3.out.2.2.size (by simp)) ?_; intro v2 w3 ho2 hg2 ha2; have hb2 := HM3.out.2.2.trans (((Below.refl w.heap.size _).alloc HM3.out.2.2.size _).trans ((HM3.out.2.1.alloc _).grownBelow hg2 (Nat.le_trans HM3.out.2.2.size (by simp)))); have HQ := Lib.hid (And.intro ho2 hb2); clear ho2 hg2 ha2 hb2)
                go_roundw
                case rel =>
                  refine ⟨bb + 1, yy / 256, by omega, by go_num, by go_num, by omega, Lib.hid ⟨?_, ?_, HQ.out.2⟩⟩
                  · rw [HM3.out.1, Nat.pow_succ, Nat.div_div_eq_div_mul]
                  · rw [bytesTo_succ, ← List.append_assoc]
                    have e1 : byteK X bb = (yy : Int) % 256 := by unfold byteK; rw [← HM3.out.1]; omega
                    rw [e1]; exact HQ.out.1
                case measure => simp [intOf]; omega
              · have hbe : bb = 8 := by omega
                subst hbe
                go_wp2
                go_roundw
                case rel =>
                  refine ⟨j + 1, by omega, by go_num, Lib.hid ⟨?_, HM3.out.2.2⟩⟩
                  rw [lbytes_succ, HXX.out, ← bytesTo_all X hFj, ← List.append_assoc]
                  exact HM3.out.2.1
                case measure => simp [intOf]; omega
          · have hje : j = 8 := by omega
            subst hje
            go_wp2
            go_roundw
            case rel => exact ⟨k + 1, by omega, by go_num, by rw [HS1.out], Lib.hid ⟨by rw [HCS.out]; exact HM2.out.1, HM2.out.2⟩⟩
            case measure => simp [intOf]; omega
    · have hk : k = n := by omega
      subst hk
      go_wp2
      go_ret
      exact ⟨_, rfl, HR⟩
end Go.Proofs.Ytbonponclcehiaa.Dev
/-
  THE REFERENCE: Dirty.
-/
namespace Go.Proofs.Ytbonponclcehiaa.Dev
open Go.ChangeShapes Go.WideShapes Go.ChangeAt Go.RowKit Go.Proofs.Ytbonponclcehiaa.Mem Go.Proofs.Ytbonponclcehiaa.Args Go.Proofs.Ytbonponclcehiaa.Own
theorem ints_new2 (k : IntKind) (w : World) (o : Obj) (t : TypeId) (zs : List Int) : IntsAt k ((w.alloc o).alloc (.cells (zs.map (Value.int k)).toArray t)) (w.heap.size + 1 + 1) (some ⟨w.heap.size + 1, 0, none⟩) zs := by
  have h := IntsAt.new k (w.alloc o) t (0, 0) zs
  have e : (w.alloc o).heap.size = w.heap.size + 1 := by simp
  rw [e] at h
  exact h
set_option maxRecDepth 100000 in
set_option maxHeartbeats 1000000 in
theorem rdirty_any (w : World) (base M : Nat) (A : RAdr) (S : St) (h : IsRef w base A S) (hS : S.Ok M) :
    Calls Try.prog 55 #[.pointer (some ⟨A.d, 0, none⟩)] w fun e w' => ∃ v', e = .returned v' ∧ Hid (OwnInts .i64 3 w' w.heap.size v' (ints (dirtyTo S S.n)) ∧ Below w.heap.size w w') := by
  obtain ⟨i0, hi, hz0, hz1, hz2⟩ := info_parts infoInt
  have HI := Lib.hid hi
  have HZ0 := Lib.hid hz0
  have HZ1 := Lib.hid hz1
  have HZ2 := Lib.hid hz2
  have HD := Lib.hid h
  have c00 := RB.c0 h.dev
  obtain ⟨n, hn⟩ : ∃ n, S.n = n := ⟨_, rfl⟩
  have hn1 := hS.n1
  rw [hn] at hn1 c00 ⊢
  have HN := Lib.hid hn
  clear hi hz0 hz1 hz2 h hS hn
  go_enter Try.func55, Try.ntmps55
  have hlt0 := HD.out.dev.lt
  go_wp2
  clear c00
  go_loopw [3, 12] (fun v i wr => ∃ k : Nat, k ≤ n ∧ i = .int .i64 k ∧ Hid (OwnInts .i64 3 wr w.heap.size v (ints (dirtyTo S k)) ∧ Below w.heap.size w wr)) (fun _ i _ => n - (intOf i).toNat)
  case atStart => exact ⟨0, by omega, rfl, Lib.hid ⟨OwnInts.empty _ _ _ (Nat.le_refl _), (Below.refl _ _).alloc (Nat.le_refl _) _⟩⟩
  case round =>
    obtain ⟨k, hk, rfl, HR⟩ := hrel
    by_cases hlt : k < n
    · have I1 := HD.out.below HR.out.2 (Nat.le_refl _)
      have hkS : k < S.n := by rw [HN.out]; exact hlt
      obtain ⟨C, c, _, q1, q2, hp, hh, hg, hrow⟩ := I1.line hkS
      have hlb := I1.lines.lt
      have hkl : (k : Int) < (n : Int) := by omega
      have hdl := Lib.hid (dirtyTo_len S k)
      have HSU := Lib.hid (dirtyTo_succ S k)
      have d0 := hp 0 (by decide)
      have d1 := hp 1 (by decide)
      have d2 := hp 2 (by decide)
      have d3 := hp 3 (by decide)
      have d4 := hp 4 (by decide)
      have d5 := hp 5 (by decide)
      have d6 := hp 6 (by decide)
      have d7 := hp 7 (by decide)
      rw [Nat.add_zero] at d0
      clear I1 hp hrow
      generalize S.pers k = bp at *
      generalize hL : (S.hist k).length = L at *
      clear hL
      by_cases h0 : 0 < L
      · have h0i : (0 : Int) < (L : Int) := by omega
        have HEQ := Lib.hid (HSU.out.trans (if_pos h0))
        have HB0 : ∀ ob, Hid (Below w.heap.size wr (wr.alloc ob)) := fun ob => Lib.hid ((Below.refl _ _).alloc HR.out.2.size ob)
        go_wp2_with (at_builtin; go_must (refine wpList_app (by simp [Region.wanted, yielded]) (.tmp 21) (.tmp 23) 45 rfl (v := u3) (B := wr.heap.size + 1 + 1) (c := 1) (A := some ⟨wr.heap.size + 1, 0, none⟩) (zs := [(k : Int)]) Try.underlying45 HI.out HZ0.out HZ1.out HZ2.out rfl rfl ((HR.out.1.alloc _).alloc _) rfl (ints_new2 .i64 wr _ 3 [(k : Int)]) rfl (by have := hdl.out; rw [ints_len]; simp [maxLen]; omega) (by have := hdl.out; rw [ints_len]; simp; omega) (Nat.le_trans HR.out.2.size (by simp; omega)) ?_); intro v2 w2 ho2 hg2 ha2; have hb2 := HR.out.2.trans (((Below.refl w.heap.size wr).alloc HR.out.2.size _).trans ((((Below.refl w.heap.size _).alloc (Nat.le_trans HR.out.2.size (by simp)) _)).trans (((HR.out.1.alloc _).alloc _).grownBelow hg2 (Nat.le_trans HR.out.2.size (by simp; omega))))); have HQ := Lib.hid (And.intro ho2 hb2); clear ho2 hg2 ha2 hb2 HR)
        go_roundw
        case rel => exact ⟨k + 1, by omega, by go_num, Lib.hid ⟨by rw [HEQ.out, ints_snoc]; exact HQ.out.1, HQ.out.2⟩⟩
        case measure => simp [intOf]; omega
      · have h0i : ¬ (0 : Int) < (L : Int) := by omega
        have HEQ := Lib.hid (HSU.out.trans (if_neg h0))
        go_wp2
        go_roundw
        case rel => exact ⟨k + 1, by omega, by go_num, Lib.hid ⟨by rw [HEQ.out]; exact HR.out.1.alloc _, HR.out.2.alloc HR.out.2.size _⟩⟩
        case measure => simp [intOf]; omega
    · have hkn : k = n := by omega
      have hkl : ¬ (k : Int) < (n : Int) := by omega
      subst hkn
      go_wp2
      go_ret
      exact ⟨_, rfl, HR⟩
end Go.Proofs.Ytbonponclcehiaa.Dev
/-
  THE REFERENCE: Current.
-/
namespace Go.Proofs.Ytbonponclcehiaa.Dev
open Go.ChangeShapes Go.WideShapes Go.ChangeAt Go.RowKit Go.Proofs.Ytbonponclcehiaa.Mem Go.Proofs.Ytbonponclcehiaa.Args Go.Proofs.Ytbonponclcehiaa.Own
theorem dirtyTo_at (S : St) (i : Nat) (h0 : 0 < (S.hist i).length) : ∀ n, i < n → (dirtyTo S n)[(dirtyTo S i).length]? = some i
  | 0, h => absurd h (by omega)
  | n + 1, h => by
    rw [dirtyTo_succ]
    by_cases hin : i < n
    · have := dirtyTo_at S i h0 n hin
      split
      · rw [List.getElem?_append_left (List.getElem?_eq_some_iff.1 this).1]; exact this
      · exact this
    · obtain rfl : i = n := by omega
      rw [if_pos h0]
      simp
theorem dirtyTo_lt (S : St) (n : Nat) : ∀ i ∈ dirtyTo S n, i < n := fun i hi => by
  unfold dirtyTo at hi
  exact List.mem_range.1 (List.mem_filter.1 hi).1
def lensOf (S : St) (l : List Nat) : List Nat := l.map fun i => (S.hist i).length
theorem hist_out {S : St} {M : Nat} (hS : S.Ok M) {i : Nat} (hi : S.n ≤ i) : (S.hist i).length = 0 := by
  cases h : S.hist i with
  | nil => rfl
  | cons p l =>
    have := hS.hist i p (by rw [h]; exact List.mem_cons_self)
    omega
theorem kpick_whole {S : St} {M : Nat} (hS : S.Ok M) (i : Nat) : kpick S (lensOf S (dirtyTo S S.n)) i = whole S i := by
  unfold kpick whole
  by_cases h0 : 0 < (S.hist i).length
  · rw [if_pos h0]
    have hi : i < S.n := by
      by_cases hi : i < S.n
      · exact hi
      · have := hist_out hS (i := i) (by omega); omega
    simp [lensOf, List.getD, dirtyTo_at S i h0 S.n hi]
  · rw [if_neg h0]; omega
theorem OwnInts.only {F : Nat → Prop} {k : IntKind} {e : TypeId} {w w' : World} {base : Nat} {v : Value} {zs : List Int} (h : OwnInts k e w base v zs) (ho : Only F w w') (hn : ∀ g, v.ownBlock = some g → ¬ F g) : OwnInts k e w' base v zs := by
  refine ⟨h.1, ?_⟩
  rcases h.2 with hn' | ⟨g, cap, cur, rfl, hbg, hgg, rest⟩
  · exact .inl hn'
  · refine .inr ⟨g, cap, cur, rfl, hbg, ?_, rest⟩
    rw [ho.block g (Array.getElem?_eq_some_iff.1 hgg).1 (hn g rfl)]; exact hgg
theorem own_mono {k : IntKind} {e : TypeId} {w : World} {base b : Nat} {v : Value} {zs : List Int} (h : OwnInts k e w base v zs) (hb : b ≤ base) : OwnInts k e w b v zs := by
  refine ⟨h.1, ?_⟩
  rcases h.2 with hn | ⟨g, cap, cur, rfl, hbg, rest⟩
  · exact .inl hn
  · exact .inr ⟨g, cap, cur, rfl, Nat.le_trans hb hbg, rest⟩
/-- The k-th integer of an owned slice, at its cell. -/
theorem OwnInts.at {k : IntKind} {e : TypeId} {w : World} {base m c : Nat} {D : Option Addr} {zs : List Int} (h : OwnInts k e w base (.slice D m c) zs) (j : Nat) (hj : j < zs.length) : ∃ ad, D = some ad ∧ w.cell? (ad.add j) = some (.int k zs[j]) := by
  obtain ⟨A, c', e1, _, _, _, hi⟩ := h.form
  simp only [Value.slice.injEq] at e1
  obtain ⟨rfl, _, _⟩ := e1
  obtain ⟨ad, h1, h2, h3⟩ := hi j hj
  rw [getD_at hj] at h3
  exact ⟨ad, h1, h3⟩
set_option maxRecDepth 100000 in
set_option maxHeartbeats 1000000 in
theorem rcurrent_any (w : World) (base M : Nat) (A : RAdr) (S : St) (h : IsRef w base A S) (hS : S.Ok M) (hM : M ≤ 1000000) :
    Calls Try.prog 53 #[.pointer (some ⟨A.d, 0, none⟩)] w fun e w' => ∃ v', e = .returned v' ∧ Hid (OwnInts .u8 5 w' w.heap.size v' (content S (whole S) S.n) ∧ Below w.heap.size w w') := by
  obtain ⟨i0, hi, hz0, hz1, hz2⟩ := info_parts infoInt
  have HI := Lib.hid hi
  have HZ0 := Lib.hid hz0
  have HZ1 := Lib.hid hz1
  have HZ2 := Lib.hid hz2
  have HD := Lib.hid h
  have HSS := Lib.hid hS
  have HKW := Lib.hid (funext (kpick_whole hS) : kpick S (lensOf S (dirtyTo S S.n)) = whole S)
  obtain ⟨dl, hdl⟩ : ∃ dl, dirtyTo S S.n = dl := ⟨_, rfl⟩
  obtain ⟨m, hm⟩ : ∃ m, dl.length = m := ⟨_, rfl⟩
  have hmn : m ≤ 4096 := by have := dirtyTo_len S S.n; have := hS.n1; rw [← hm, ← hdl]; omega
  have HDM := Lib.hid hm
  have HLT : Hid (∀ i ∈ dl, i < S.n) := Lib.hid (by rw [← hdl]; exact dirtyTo_lt S S.n)
  rw [hdl] at HKW
  have HDR : Hid (∀ w1, Below w.heap.size w w1 → Calls Try.prog 55 #[.pointer (some ⟨A.d, 0, none⟩)] w1 fun e w' => ∃ D c, e = .returned (.slice D m c) ∧ Hid (OwnInts .i64 3 w' w1.heap.size (.slice D m c) (ints dl) ∧ Below w1.heap.size w1 w')) := Lib.hid fun w1 hb => by
    refine (rdirty_any w1 base M A S (h.below hb (Nat.le_refl _)) hS).mono ?_
    rintro e w' ⟨v, rfl, H⟩
    obtain ⟨D, c, e1, _⟩ := H.out.1.form
    rw [ints_len, hdl, hm] at e1
    subst e1
    exact ⟨D, c, rfl, by rw [← hdl]; exact H⟩
  obtain ⟨n, hn⟩ : ∃ n, S.n = n := ⟨_, rfl⟩
  have HN := Lib.hid hn
  clear hi hz0 hz1 hz2 h hS hn hdl hm
  go_enter Try.func53, Try.ntmps53
  go_wp2_with (go_at_call 55; refine (HDR.out _ ((Below.refl _ _).alloc (Nat.le_refl _) _)).mono ?_; rintro e w1 ⟨D, c, rfl, H1⟩)
  have HS1 : Hid (w.heap.size + 1 ≤ w1.heap.size) := Lib.hid (by have := H1.out.2.size; simpa using this)
  go_loopw [3, 10] (fun v i wr => ∃ k : Nat, k ≤ m ∧ i = .int .i64 k ∧ Hid (OwnInts .i64 3 wr w.heap.size v (ints (lensOf S (dl.take k))) ∧ Below w.heap.size w wr ∧ Only (fun b => b = w.heap.size ∨ w1.heap.size ≤ b) w1 wr ∧ ∀ b, v.ownBlock = some b → b = w.heap.size ∨ w1.heap.size ≤ b)) (fun _ i _ => m - (intOf i).toNat)
  case atStart =>
    refine ⟨0, by omega, rfl, Lib.hid ⟨?_, ?_, Only.refl _ _, fun b hb => .inl (Option.some.inj hb).symm⟩⟩
    · have := (OwnInts.empty .i64 3 w (Nat.le_refl _)).below H1.out.2
      simpa [lensOf, ints] using this
    · exact ((Below.refl _ _).alloc (Nat.le_refl _) _).trans (H1.out.2.mono (by simp))
  case round =>
    obtain ⟨k, hk, rfl, HR⟩ := hrel
    by_cases hlt : k < m
    · have hkl : (k : Int) < (m : Int) := by omega
      have hkd : k < dl.length := by rw [HDM.out]; exact hlt
      have I1 := HD.out.below HR.out.2.1 (Nat.le_refl _)
      have hsz : (w.alloc (.cells #[] 3)).heap.size = w.heap.size + 1 := by simp
      have hoff : ∀ g, (Value.slice D m c).ownBlock = some g → ¬ (g = w.heap.size ∨ w1.heap.size ≤ g) := fun g hg f => by
        have h1 := H1.out.1.lt g hg
        rw [hsz] at h1
        rcases f with f | f <;> omega
      have OD := OwnInts.only H1.out.1 HR.out.2.2.1 hoff
      obtain ⟨ad, rfl, hcell⟩ := OwnInts.at OD k (by rw [ints_len]; exact hkd)
      obtain ⟨x, hx⟩ : ∃ x, dl[k] = x := ⟨_, rfl⟩
      have hcell2 : wr.cell? (ad.add k) = some (.int .i64 (x : Int)) := by rw [hcell, ← hx]; simp [ints]
      have hxn : x < S.n := by rw [← hx]; exact HLT.out _ (List.getElem_mem hkd)
      obtain ⟨C, cc, _, q1, q2, _, hh, _, _⟩ := I1.line hxn
      have hxl : x < n := by rw [← HN.out]; exact hxn
      have hxi : (x : Int) < (n : Int) := by omega
      have c0 := RB.c0 I1.dev
      rw [HN.out] at c0
      have hlb := I1.lines.lt
      have hsum := HSS.out.sum x
      have HTK : Hid (lensOf S (dl.take (k + 1)) = lensOf S (dl.take k) ++ [(S.hist x).length]) := Lib.hid (by rw [List.take_succ_eq_append_getElem hkd, hx]; simp [lensOf])
      generalize hL : (S.hist x).length = L at *
      have hLM : L ≤ 1000000 := by omega
      have hlen : (ints (lensOf S (dl.take k))).length ≤ 4096 := by rw [ints_len]; simp [lensOf]; omega
      have HLEN := Lib.hid hlen
      clear I1 OD hcell hx hkd hL hlen hsum hsz hoff
      go_wp2_with (at_builtin; go_must (refine wpList_app (by simp [Region.wanted, yielded]) (.tmp 14) (.tmp 24) 45 rfl (v := u3) (B := wr.heap.size + 1) (c := 1) (A := some ⟨wr.heap.size, 0, none⟩) (zs := [(L : Int)]) Try.underlying45 HI.out HZ0.out HZ1.out HZ2.out rfl rfl (HR.out.1.alloc _) rfl (IntsAt.new .i64 wr 3 (0, 0) _) rfl (by have := HLEN.out; unfold maxLen; omega) (by have := HLEN.out; omega) (Nat.le_trans HR.out.2.1.size (by simp)) ?_); intro v2 w2 ho2 hg2 ha2; have HQ := Lib.hid (And.intro ho2 (And.intro hg2 ha2)); clear ho2 hg2 ha2)
      go_roundw
      case rel =>
        refine ⟨k + 1, by omega, by go_num, Lib.hid ⟨by rw [HTK.out, ints_snoc]; exact HQ.out.1, ?_, ?_, ?_⟩⟩
        · exact HR.out.2.1.trans (((Below.refl w.heap.size wr).alloc HR.out.2.1.size _).trans ((HR.out.1.alloc _).grownBelow HQ.out.2.1 (Nat.le_trans HR.out.2.1.size (by simp))))
        · refine (HR.out.2.2.1.alloc _).trans (Only.ofGrown HQ.out.2.1 fun b hb => .inl (HR.out.2.2.2 b hb))
        · intro b hb
          rcases HQ.out.2.2 with h1 | h1
          · rw [h1] at hb; exact HR.out.2.2.2 b hb
          · rw [h1] at hb
            have h2 := HR.out.2.2.1.size
            have h3 : (wr.alloc (.cells #[.int .i64 (L : Int)] 3)).heap.size = wr.heap.size + 1 := by simp
            have := Option.some.inj hb
            omega
      case measure => simp [intOf]; omega
    · have hkn : k = m := by omega
      have hkl : ¬ (k : Int) < (m : Int) := by omega
      subst hkn
      have htk : dl.take k = dl := List.take_of_length_le (by rw [HDM.out]; omega)
      have ho := HR.out.1
      rw [htk] at ho
      have hll : (lensOf S dl).length = k := by simp [lensOf, HDM.out]
      obtain ⟨K, cc, e1, _, _, _, hi1⟩ := ho.form
      rw [ints_len, hll] at e1
      subst e1
      have HC := Lib.hid (rcontent_any wr base M A S K k cc wr.heap.size (lensOf S dl) (HD.out.below HR.out.2.1 (Nat.le_refl _)) HSS.out hM hll hmn hi1 (Nat.le_refl _) (fun i => by rw [HKW.out]; exact Nat.le_refl _))
      rw [HKW.out, HN.out] at HC
      clear ho hi1 htk hll
      go_wp2_with (go_at_call 54; refine HC.out.mono ?_; rintro e w2 ⟨v2, rfl, H2⟩)
      go_ret
      exact ⟨v2, rfl, Lib.hid ⟨by rw [HN.out]; exact own_mono H2.out.1 HR.out.2.1.size, HR.out.2.1.trans (H2.out.2.mono HR.out.2.1.size)⟩⟩
end Go.Proofs.Ytbonponclcehiaa.Dev
/-
  THE REFERENCE: New.
-/
namespace Go.Proofs.Ytbonponclcehiaa.Dev
open Go.ChangeShapes Go.WideShapes Go.ChangeAt Go.RowKit Go.Proofs.Ytbonponclcehiaa.Mem Go.Proofs.Ytbonponclcehiaa.Args Go.Proofs.Ytbonponclcehiaa.Own
theorem infoRLine : (Try.prog.info? 85).map (fun i => (i.zero, i.size, i.bytes)) = some (some (.agg #[.int .u64 0, .int .u64 0, .int .u64 0, .int .u64 0, .int .u64 0, .int .u64 0, .int .u64 0, .int .u64 0, .slice none 0 0, .int .i64 0]), 10, 96) := by kernel_rfl
theorem zrline_cells : (Value.agg #[.int .u64 0, .int .u64 0, .int .u64 0, .int .u64 0, .int .u64 0, .int .u64 0, .int .u64 0, .int .u64 0, .slice none 0 0, .int .i64 0]).cells = #[.int .u64 0, .int .u64 0, .int .u64 0, .int .u64 0, .int .u64 0, .int .u64 0, .int .u64 0, .int .u64 0, .slice none 0 0, .int .i64 0] := rfl
theorem zrline_at (m o : Nat) (ho : o < m) : (madeCells #[Value.int .u64 0, .int .u64 0, .int .u64 0, .int .u64 0, .int .u64 0, .int .u64 0, .int .u64 0, .int .u64 0, .slice none 0 0, .int .i64 0] m).toList[o]? = some (if o % 10 < 8 then .int .u64 0 else if o % 10 = 8 then .slice none 0 0 else .int .i64 0) := by
  have key : ∀ r, r < 10 → (#[Value.int .u64 0, .int .u64 0, .int .u64 0, .int .u64 0, .int .u64 0, .int .u64 0, .int .u64 0, .int .u64 0, .slice none 0 0, .int .i64 0] : Array Value)[r]! = if r < 8 then .int .u64 0 else if r = 8 then .slice none 0 0 else .int .i64 0 := by
    intro r hr
    match r, hr with
    | 0, _ => rfl
    | 1, _ => rfl
    | 2, _ => rfl
    | 3, _ => rfl
    | 4, _ => rfl
    | 5, _ => rfl
    | 6, _ => rfl
    | 7, _ => rfl
    | 8, _ => rfl
    | 9, _ => rfl
    | r + 10, h => exact absurd h (by omega)
  have h1 := key (o % 10) (by omega)
  simp only [madeCells, Array.toList_map, List.getElem?_map, Array.toList_range]
  rw [List.getElem?_range (by simpa using ho)]
  simp only [Option.map_some, List.size_toArray, List.length_cons, List.length_nil]
  rw [show (0 + 1 + 1 + 1 + 1 + 1 + 1 + 1 + 1 + 1 + 1 : Nat) = 10 from rfl, h1]
theorem row2_nil (w : World) (base : Nat) (T : TypeId) : Row2 w base T (.slice none 0 0) 0 [] := World.ownsRow_nil w base T 2
theorem refNew_blk (w : World) (lb n : Nat) (T : TypeId) : Blk (w.alloc (.cells #[Value.slice (some ⟨lb, 0, none⟩) n n, .slice none 0 0, .slice none 0 0, .slice none 0 0, .slice none 0 0, .slice none 0 0, .slice none 0 0, .slice none 0 0, .slice none 0 0, .int .i64 0, .int .i64 0, .int .i64 0, .int .i64 0, .int .i64 0, .int .i64 0, .int .i64 0, .int .i64 0, .int .i64 (-1), .bool false, .int .u64 0] T)) w.heap.size T 20 (refG ⟨w.heap.size, lb, fun _ => .slice none 0 0, fun _ => .slice none 0 0⟩ (St.new n)) := by
  refine Blk.newOf w _ T rfl fun o ho => ?_
  match o, ho with
  | 0, _ => rfl
  | 1, _ => rfl
  | 2, _ => rfl
  | 3, _ => rfl
  | 4, _ => rfl
  | 5, _ => rfl
  | 6, _ => rfl
  | 7, _ => rfl
  | 8, _ => rfl
  | 9, _ => rfl
  | 10, _ => rfl
  | 11, _ => rfl
  | 12, _ => rfl
  | 13, _ => rfl
  | 14, _ => rfl
  | 15, _ => rfl
  | 16, _ => rfl
  | 17, _ => rfl
  | 18, _ => rfl
  | 19, _ => rfl
  | o + 20, h => exact absurd h (by omega)
set_option maxRecDepth 100000 in
theorem rnew_any (w : World) (n : Nat) (h0 : 1 ≤ n) (h1 : n ≤ 4096) :
    Calls Try.prog 16 #[.int .i64 (n : Int)] w fun e w' => ∃ A : RAdr, e = .returned (.pointer (some ⟨A.d, 0, none⟩)) ∧ Hid (IsRef w' w.heap.size A (St.new n) ∧ Below w.heap.size w w') := by
  obtain ⟨i0, hi, hz0, hz1, hz2⟩ := info_parts infoRLine
  have HI := Lib.hid hi
  have HZ0 := Lib.hid hz0
  have HZ1 := Lib.hid hz1
  have HZ2 := Lib.hid hz2
  clear hi hz0 hz1 hz2
  go_enter Try.func16, Try.ntmps16
  go_wp2_with (at_make; go_must (refine wpList_make_full _ rfl _ _ 86 rfl w.heap.size 85 i0 _ 10 Try.underlying86 HI.out HZ0.out HZ1.out .i64 .i64 (n : Int) (n : Int) n rfl rfl rfl rfl (by rw [HZ2.out]; omega) (by simp [maxLen]; omega) (Nat.le_refl _) ?_); intro w1 ho1 hg1; have HO1 := Lib.hid ho1; have HG1 := Lib.hid hg1; clear ho1 hg1)
  go_ret
  have hlt := (HO1.out.lt w.heap.size rfl).2
  refine ⟨⟨w1.heap.size, w.heap.size, fun _ => .slice none 0 0, fun _ => .slice none 0 0⟩, rfl, Lib.hid ⟨⟨refNew_blk w1 w.heap.size n _, ?_, fun i hi => ⟨row2_nil _ _ _, by simp [Value.ownBlock], by simp [Value.ownBlock]⟩, fun t ht => ⟨row2_nil _ _ _, by simp [Value.ownBlock], by simp [Value.ownBlock]⟩, ?_, Nat.le_of_lt hlt, Nat.le_refl _⟩, ?_⟩⟩
  · refine Blk.alloc ?_ _
    rcases HO1.out.2 with ⟨h, _⟩ | ⟨g, cap, cur, h, _, hg, _, _, hsz, htk⟩
    · cases h
    · simp only [Value.slice.injEq, Option.some.injEq, Addr.mk.injEq, and_true] at h
      obtain ⟨e1, _, e3⟩ := h
      subst e1 e3
      refine ⟨cur, hg, hsz, fun o ho => ?_⟩
      have ho' : o < n * 10 := ho
      have h4 : (cur.toList.take (n * 10))[o]? = _ := congrArg (·[o]?) htk
      rw [List.getElem?_take, if_pos ho', Array.getElem?_toList, zrline_cells, zrline_at _ _ ho'] at h4
      rw [h4]
      unfold rlinesG
      by_cases k1 : o % 10 < 8
      · rw [if_pos k1, if_pos k1]; rfl
      · by_cases k2 : o % 10 = 8
        · rw [if_neg k1, if_neg k1, if_pos k2, if_pos k2]
        · rw [if_neg k1, if_neg k1, if_neg k2, if_neg k2]; rfl
  · show w1.heap.size ≠ w.heap.size
    omega
  · exact (((Below.refl _ _).grown HG1.out (Nat.le_refl _) (fun k hk => by cases hk))).alloc HG1.out.size _
end Go.Proofs.Ytbonponclcehiaa.Dev
