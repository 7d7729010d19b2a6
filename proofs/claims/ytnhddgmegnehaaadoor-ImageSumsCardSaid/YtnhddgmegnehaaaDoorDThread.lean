/-
  DEVICE: the functions that touch the device's own block alone: fail, tick, Lines, Size, isWord, admit, count, Off, Executed, Arm, Err, ID, Thread.
-/
import Derived.Test.YtnhddgmegnehaaaDoorDState
set_option linter.unusedVariables false
set_option linter.unusedSimpArgs false
namespace Go.Proofs.YtnhddgmegnehaaaDoor.Dev
open Go.ChangeShapes Go.WideShapes Go.ChangeAt Go.RowKit Go.Proofs.YtnhddgmegnehaaaDoor.Mem
theorem devG_ptr (A : Adr) (S : St) {t : Nat} (ht : t < 8) : devG A S (1 + t * 4) = .pointer (some ⟨A.d, 0, none⟩) := by
  unfold devG; rw [if_neg (by omega), if_pos (by omega), if_pos (by omega)]
theorem devG_id (A : Adr) (S : St) {t : Nat} (ht : t < 8) : devG A S (1 + t * 4 + 1) = .int .i64 (t : Int) := by
  unfold devG; rw [if_neg (by omega), if_pos (by omega), if_neg (by omega), if_pos (by omega), show (1 + t * 4 + 1 - 1) / 4 = t by omega]
theorem devG_err (A : Adr) (S : St) {t : Nat} (ht : t < 8) : devG A S (1 + t * 4 + 2) = .int .i64 (S.err t : Int) := by
  unfold devG; rw [if_neg (by omega), if_pos (by omega), if_neg (by omega), if_neg (by omega), if_pos (by omega), show (1 + t * 4 + 2 - 1) / 4 = t by omega]
theorem devG_map (A : Adr) (S : St) {t : Nat} (ht : t < 8) : devG A S (1 + t * 4 + 3) = .map (A.mv t) := by
  unfold devG; rw [if_neg (by omega), if_pos (by omega), if_neg (by omega), if_neg (by omega), if_neg (by omega), show (1 + t * 4 + 3 - 1) / 4 = t by omega]
/-- The device's block alone. -/
def DB (w : World) (A : Adr) (S : St) : Prop := Blk w A.d 76 37 (devG A S)
theorem St.setErr_same (S : St) (t e : Nat) (h : S.err t ≠ 0) : S.setErr t e = S := by
  have e1 : (fun u => if u = t ∧ S.err t = 0 then e else S.err u) = S.err := by funext u; rw [if_neg (fun h' => h h'.2)]
  unfold St.setErr
  rw [e1]
theorem DB.setErr {w : World} {A : Adr} {S : St} (h : DB w A S) {t : Nat} (ht : t < 8) (e : Nat) (h0 : S.err t = 0) : DB (w.setCell ⟨A.d, 1 + t * 4 + 2, none⟩ (.int .i64 (e : Int))) A (S.setErr t e) := by
  refine (Blk.set h (1 + t * 4 + 2) (.int .i64 (e : Int))).ext fun o ho => ?_
  by_cases h1 : o = 1 + t * 4 + 2
  · subst h1; rw [upd_same, devG_err _ _ ht]; simp [St.setErr, h0]
  · rw [upd_other _ _ h1]
    unfold devG St.setErr
    simp only
    by_cases h2 : (o - 1) % 4 = 2
    · simp only [h2, show ¬ ((o - 1) / 4 = t) by omega, false_and, if_false]
    · simp only [h2, if_false]
theorem devG_upd (A : Adr) (S S' : St) (k : Nat) (v : Value) (hk : devG A S' k = v) (ho : ∀ o, o < 37 → o ≠ k → devG A S' o = devG A S o) : ∀ o, o < 37 → devG A S' o = upd (devG A S) k v o := fun o h => by
  by_cases h1 : o = k
  · subst h1; rw [upd_same, hk]
  · rw [upd_other _ _ h1, ho o h h1]
theorem DB.off {w : World} {A : Adr} {S : St} (h : DB w A S) : DB (w.setCell ⟨A.d, 34, none⟩ (.bool true)) A { S with off := true } :=
  (Blk.set h 34 (.bool true)).ext (devG_upd A S _ 34 _ rfl fun o ho h1 => by
    unfold devG
    simp only
    rw [if_neg h1, if_neg h1])
theorem DB.ticked {w : World} {A : Adr} {S : St} (h : DB w A S) (h0 : S.left = none) : DB (w.setCell ⟨A.d, 33, none⟩ (.int .u64 ((S.ex + 1 : Nat) : Int))) A S.tickS :=
  (Blk.set h 33 _).ext (devG_upd A S _ 33 _ rfl fun o ho h1 => by
    unfold devG St.tickS
    simp only [h0, Option.map_none]
    rw [if_neg h1, if_neg h1])
theorem DB.ticked' {w : World} {A : Adr} {S : St} {m : Nat} (h : DB w A S) (h0 : S.left = some (m + 1)) : DB ((w.setCell ⟨A.d, 36, none⟩ (.int .i64 (m : Int))).setCell ⟨A.d, 33, none⟩ (.int .u64 ((S.ex + 1 : Nat) : Int))) A S.tickS := by
  refine (Blk.set (Blk.set h 36 (.int .i64 (m : Int))) 33 _).ext fun o ho => ?_
  by_cases h1 : o = 33
  · subst h1; rw [upd_same]; rfl
  · rw [upd_other _ _ h1]
    by_cases h2 : o = 36
    · subst h2; rw [upd_same]; unfold devG St.tickS; simp [h0]
    · rw [upd_other _ _ h2]
      unfold devG St.tickS
      simp only [h0, Option.map_some, Option.isSome_some]
      by_cases h3 : o = 0
      · simp [h3]
      · by_cases h4 : o < 33
        · simp [h3, h4]
        · by_cases h5 : o = 34
          · simp [h5]
          · by_cases h6 : o = 35
            · simp [h6]
            · omega
end Go.Proofs.YtnhddgmegnehaaaDoor.Dev
