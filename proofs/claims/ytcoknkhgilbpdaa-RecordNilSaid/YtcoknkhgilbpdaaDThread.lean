/-
  DEVICE: the functions that touch the device's own block alone: fail, tick, Lines, Size, isWord, admit, count, Off, Executed, Arm, Err, ID, Thread.
-/
import Derived.Test.YtcoknkhgilbpdaaDState
set_option linter.unusedVariables false
set_option linter.unusedSimpArgs false
namespace Go.Proofs.Ytcoknkhgilbpdaa.Dev
open Go.ChangeShapes Go.WideShapes Go.ChangeAt Go.RowKit Go.Proofs.Ytcoknkhgilbpdaa.Mem
theorem devG_ptr (A : Adr) (S : St) {t : Nat} (ht : t < 8) : devG A S (1 + t * 4) = .pointer (some ⟨A.d, 0, none⟩) := by
  unfold devG; rw [if_neg (by omega), if_pos (by omega), if_pos (by omega)]
theorem devG_id (A : Adr) (S : St) {t : Nat} (ht : t < 8) : devG A S (1 + t * 4 + 1) = .int .i64 (t : Int) := by
  unfold devG; rw [if_neg (by omega), if_pos (by omega), if_neg (by omega), if_pos (by omega), show (1 + t * 4 + 1 - 1) / 4 = t by omega]
theorem devG_err (A : Adr) (S : St) {t : Nat} (ht : t < 8) : devG A S (1 + t * 4 + 2) = .int .i64 (S.err t : Int) := by
  unfold devG; rw [if_neg (by omega), if_pos (by omega), if_neg (by omega), if_neg (by omega), if_pos (by omega), show (1 + t * 4 + 2 - 1) / 4 = t by omega]
theorem devG_map (A : Adr) (S : St) {t : Nat} (ht : t < 8) : devG A S (1 + t * 4 + 3) = .map (A.mv t) := by
  unfold devG; rw [if_neg (by omega), if_pos (by omega), if_neg (by omega), if_neg (by omega), if_neg (by omega), show (1 + t * 4 + 3 - 1) / 4 = t by omega]
/-- The device's block alone. -/
def DB (w : World) (A : Adr) (S : St) : Prop := Blk w A.d 167 37 (devG A S)
theorem St.setErr_same (S : St) (t e : Nat) (h : S.err t ≠ 0) : S.setErr t e = S := by
  have e1 : (fun u => if u = t ∧ S.err t = 0 then e else S.err u) = S.err := by funext u; rw [if_neg (fun h' => h h'.2)]
  unfold St.setErr
  rw [e1]
theorem DB.setErr {w : World} {A : Adr} {S : St} (h : DB w A S) {t : Nat} (ht : t < 8) (e : Nat) (h0 : S.err t = 0) : DB (w.setCell ⟨A.d, 1 + t * 4 + 2, none⟩ (.int .i64 (e : Int))) A (S.setErr t e) := by
  refine (Blk.set h (1 + t * 4 + 2) (.int .i64 (e : Int))).ext fun o ho => ?_
  by_cases h1 : o = 1 + t * 4 + 2
  · subst h1; rw [upd_same, devG_err _ _ ht]; simp [St.setErr, h0]
  · rw [upd_other _ _ h1]
    unfold devG St.setErr
    simp only
    by_cases h2 : (o - 1) % 4 = 2
    · simp only [h2, show ¬ ((o - 1) / 4 = t) by omega, false_and, if_false]
    · simp only [h2, if_false]
theorem fail_any (w : World) (A : Adr) (S : St) (t e : Nat) (h : DB w A S) (ht : t < 8) (he : e ≤ 3) :
    Calls Try.prog 93 #[.pointer (some ⟨A.d, 1 + t * 4, none⟩), .int .i64 (e : Int)] w fun r w' => r = .returned (.tuple #[]) ∧ Hid (DB w' A (S.setErr t e) ∧ Only (fun b => b = A.d) w w') := by
  have hc := h.cell (o := 1 + t * 4 + 2) (by omega)
  have hz := h.frozen (1 + t * 4 + 2)
  rw [devG_err _ _ ht] at hc
  have HD := Lib.hid h
  clear h
  by_cases h0 : S.err t = 0
  · have H0 := Lib.hid h0
    rw [h0] at hc
    clear h0
    go_enter Try.func93, Try.ntmps93
    go_wp2
    go_end0
    exact ⟨rfl, Lib.hid ⟨HD.out.setErr ht e H0.out, (Only.refl _ _).set _ _ (.inl rfl)⟩⟩
  · have hb : ((S.err t : Int) == 0) = false := by simp; omega
    have HS := Lib.hid (S.setErr_same t e h0)
    generalize hE : S.err t = E at hc hb
    clear h0 hE
    go_enter Try.func93, Try.ntmps93
    go_wp2
    go_end0
    exact ⟨rfl, Lib.hid ⟨by rw [HS.out]; exact HD.out, Only.refl _ _⟩⟩
theorem devG_upd (A : Adr) (S S' : St) (k : Nat) (v : Value) (hk : devG A S' k = v) (ho : ∀ o, o < 37 → o ≠ k → devG A S' o = devG A S o) : ∀ o, o < 37 → devG A S' o = upd (devG A S) k v o := fun o h => by
  by_cases h1 : o = k
  · subst h1; rw [upd_same, hk]
  · rw [upd_other _ _ h1, ho o h h1]
theorem DB.off {w : World} {A : Adr} {S : St} (h : DB w A S) : DB (w.setCell ⟨A.d, 34, none⟩ (.bool true)) A { S with off := true } :=
  (Blk.set h 34 (.bool true)).ext (devG_upd A S _ 34 _ rfl fun o ho h1 => by
    unfold devG
    simp only
    rw [if_neg h1, if_neg h1])
theorem DB.ticked {w : World} {A : Adr} {S : St} (h : DB w A S) (h0 : S.left = none) : DB (w.setCell ⟨A.d, 33, none⟩ (.int .u64 ((S.ex + 1 : Nat) : Int))) A S.tickS :=
  (Blk.set h 33 _).ext (devG_upd A S _ 33 _ rfl fun o ho h1 => by
    unfold devG St.tickS
    simp only [h0, Option.map_none]
    rw [if_neg h1, if_neg h1])
theorem DB.ticked' {w : World} {A : Adr} {S : St} {m : Nat} (h : DB w A S) (h0 : S.left = some (m + 1)) : DB ((w.setCell ⟨A.d, 36, none⟩ (.int .i64 (m : Int))).setCell ⟨A.d, 33, none⟩ (.int .u64 ((S.ex + 1 : Nat) : Int))) A S.tickS := by
  refine (Blk.set (Blk.set h 36 (.int .i64 (m : Int))) 33 _).ext fun o ho => ?_
  by_cases h1 : o = 33
  · subst h1; rw [upd_same]; rfl
  · rw [upd_other _ _ h1]
    by_cases h2 : o = 36
    · subst h2; rw [upd_same]; unfold devG St.tickS; simp [h0]
    · rw [upd_other _ _ h2]
      unfold devG St.tickS
      simp only [h0, Option.map_some, Option.isSome_some]
      by_cases h3 : o = 0
      · simp [h3]
      · by_cases h4 : o < 33
        · simp [h3, h4]
        · by_cases h5 : o = 34
          · simp [h5]
          · by_cases h6 : o = 35
            · simp [h6]
            · omega
theorem tick_any (w : World) (A : Adr) (S : St) (h : DB w A S) (hx : S.ex ≤ 4294967295) (hm : ∀ m, S.left = some m → m ≤ 9223372036854775807) :
    Calls Try.prog 92 #[.pointer (some ⟨A.d, 0, none⟩)] w fun r w' => r = .returned (.bool (!S.dead)) ∧ Hid (DB w' A S.tk ∧ Only (fun b => b = A.d) w w') := by
  have c33 := h.cell (o := 33) (by omega)
  have c34 := h.cell (o := 34) (by omega)
  have c35 := h.cell (o := 35) (by omega)
  have c36 := h.cell (o := 36) (by omega)
  have z33 := h.frozen 33
  have z34 := h.frozen 34
  have z36 := h.frozen 36
  rw [show devG A S 33 = .int .u64 (S.ex : Int) from rfl] at c33
  rw [show devG A S 34 = .bool S.off from rfl] at c34
  rw [show devG A S 35 = .bool S.left.isSome from rfl] at c35
  rw [show devG A S 36 = .int .i64 ((S.left.getD 0 : Nat) : Int) from rfl] at c36
  have HD := Lib.hid h
  clear h
  rcases hL : S.left with _ | m
  · have H1 := Lib.hid (HD.out.ticked hL)
    have hdd : S.dead = false := by simp [St.dead, hL]
    have HT := Lib.hid (show S.tk = S.tickS by simp [St.tk, hdd])
    rw [hdd]
    clear hdd
    rw [hL] at c35 c36
    simp only [Option.isSome_none, Option.getD_none] at c35 c36
    clear hL hm c34 z34
    generalize S.ex = X at *
    go_enter Try.func92, Try.ntmps92
    go_wp2
    go_ret
    exact ⟨rfl, Lib.hid ⟨by rw [HT.out]; exact H1.out, (Only.refl _ _).set _ _ (.inl rfl)⟩⟩
  · rcases m with _ | m
    · have H1 := Lib.hid HD.out.off
      have hdd : S.dead = true := by simp [St.dead, hL]
      have HT := Lib.hid (show S.tk = { S with off := true } by simp [St.tk, hdd])
      rw [hdd]
      clear hdd
      rw [hL] at c35 c36
      simp only [Option.isSome_some, Option.getD_some] at c35 c36
      have c36' : w.cell? ⟨A.d, 36, none⟩ = some (.int .i64 0) := c36
      clear hL hm c36 c33 z33
      go_enter Try.func92, Try.ntmps92
      go_wp2
      go_ret
      exact ⟨rfl, Lib.hid ⟨by rw [HT.out]; exact H1.out, (Only.refl _ _).set _ _ (.inl rfl)⟩⟩
    · have H1 := Lib.hid (HD.out.ticked' hL)
      have hdd : S.dead = false := by simp [St.dead, hL]
      have HT := Lib.hid (show S.tk = S.tickS by simp [St.tk, hdd])
      rw [hdd]
      clear hdd
      have hm' := hm _ hL
      rw [hL] at c35 c36
      simp only [Option.isSome_some, Option.getD_some] at c35 c36
      have hb : (((m + 1 : Nat) : Int) == 0) = false := by simp; omega
      obtain ⟨m1, hm1⟩ : ∃ m1, m + 1 = m1 := ⟨_, rfl⟩
      have hms : (m1 : Int) - 1 = (m : Int) := by omega
      rw [hm1] at c36 hb hm'
      have HN := Lib.hid hm1
      clear hL hm c34 z34 hm1
      generalize S.ex = X at *
      go_enter Try.func92, Try.ntmps92
      go_wp2
      go_ret
      exact ⟨rfl, Lib.hid ⟨by rw [HT.out]; exact H1.out, (((Only.refl (fun b => b = A.d) w).set _ _ (.inl rfl)).set _ _ (.inl rfl))⟩⟩
end Go.Proofs.Ytcoknkhgilbpdaa.Dev
