/-
  DEVICE: Load, Store, CAS of a thread.
-/
import Derived.Test.YtnhddgmegnehaaaDoorDFrame
set_option linter.unusedVariables false
set_option linter.unusedSimpArgs false
namespace Go.Proofs.YtnhddgmegnehaaaDoor.Dev
open Go.ChangeShapes Go.WideShapes Go.ChangeAt Go.RowKit Go.Proofs.YtnhddgmegnehaaaDoor.Mem
section
variable {w : World} {base : Nat} {A : Adr} {S : St}
theorem IsDev.cCur (h : IsDev w base A S) {k p : Nat} (hk : k < S.n) (hp : p < 8) : w.cell? ⟨A.lb, k * 18 + 8 + p, none⟩ = some (.int .u64 (S.cur k p : Int)) := by
  rw [h.lines.cell (by omega)]
  unfold linesG
  rw [if_neg (by omega), if_pos (by omega), show (k * 18 + 8 + p) / 18 = k by omega, show (k * 18 + 8 + p) % 18 - 8 = p by omega]
  rfl
theorem linesG_pers (A : Adr) (S : St) (k j : Nat) (hj : j < 8) : linesG A S (k * 18 + j) = wordG (S.pers k) j := by
  unfold linesG
  rw [if_pos (by omega), show (k * 18 + j) / 18 = k by omega, show (k * 18 + j) % 18 = j by omega]
theorem linesG_cur (A : Adr) (S : St) (k j : Nat) (hj : j < 8) : linesG A S (k * 18 + 8 + j) = wordG (S.cur k) j := by
  unfold linesG
  rw [if_neg (by omega), if_pos (by omega), show (k * 18 + 8 + j) / 18 = k by omega, show (k * 18 + 8 + j) % 18 - 8 = j by omega]
theorem linesG_hist (A : Adr) (S : St) (k : Nat) : linesG A S (k * 18 + 16) = A.hv k := by
  unfold linesG
  rw [if_neg (by omega), if_neg (by omega), if_pos (by omega), show (k * 18 + 16) / 18 = k by omega]
theorem linesG_gone (A : Adr) (S : St) (k : Nat) : linesG A S (k * 18 + 17) = .int .u64 (S.gone k : Int) := by
  unfold linesG
  rw [if_neg (by omega), if_neg (by omega), if_neg (by omega), show (k * 18 + 17) / 18 = k by omega]
theorem St.isW_lt {o : Nat} (h : S.isW o = true) : o / 64 < S.n ∧ o % 8 = 0 := by
  simp [St.isW] at h; omega
theorem St.Ok.fine {M : Nat} (h : S.Ok M) (i : Nat) : Fine (S.hist i) := fun p hp => by
  obtain ⟨_, _, h1, h2⟩ := h.hist i p hp
  have := h.n1
  exact ⟨by omega, h2⟩
end
theorem below_drewN (B : Nat) (w : World) (n : Nat) : Below B w (w.drewN n) := ⟨rfl, rfl, rfl, Nat.le_refl _, fun _ _ => rfl⟩
theorem St.put_cur (S : St) (o x i : Nat) : (S.put o x).cur i = if i = o / 64 then (fun j => if j = o / 8 % 8 then x else S.cur i j) else S.cur i := by
  unfold St.cur St.put
  simp only
  by_cases h : i = o / 64
  · rw [if_pos h, if_pos h, applyW_snoc]
  · rw [if_neg h, if_neg h]
theorem St.cntS_n (S : St) (t : Nat) (v : Bool) : (S.cntS t v).n = S.n := (SameData.cntS S t v).n
theorem Step.pre {w w1 w2 : World} {base : Nat} {A : Adr} {S S1 S2 : St} (ho : Only (fun b => b = A.d) w w1) (hn : S1.n = S.n) (k : Step w1 w2 base A S1 S2) : Step w w2 base A S S2 := by
  obtain ⟨A', b1, b2, b3, b4, b5⟩ := k
  rw [hn] at b4 b5
  refine ⟨A', b1, b2, b3, (ho.mono fun b hb => .inl hb).trans b4, fun b hb => ?_⟩
  rcases b5 b hb with h1 | h1
  · exact .inl h1
  · exact .inr (Nat.le_trans ho.size h1)
end Go.Proofs.YtnhddgmegnehaaaDoor.Dev
