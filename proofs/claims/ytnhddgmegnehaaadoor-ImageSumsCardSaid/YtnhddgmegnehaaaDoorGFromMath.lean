/-
  From, the mathematics: a device whose persisted content is given bytes.
-/
import Derived.Test.YtnhddgmegnehaaaDoorDImage
import Derived.Test.YtnhddgmegnehaaaDoorDNew
import Derived.Test.YtnhddgmegnehaaaDoorDOk
import Derived.Test.YtnhddgmegnehaaaDoorGWord
import Derived.Test.YtnhddgmegnehaaaDoorPackMath
set_option linter.unusedVariables false
set_option linter.unusedSimpArgs false
namespace Go.Proofs.YtnhddgmegnehaaaDoor.Dev
open Go.Proofs.YtnhddgmegnehaaaDoor.PackMath
/-- Word m of the bytes. -/
def wordOf (bs : List Int) (m : Nat) : Nat := (pkw bs m).toNat
theorem wordOf_lt (bs : List Int) (m : Nat) (hz : ∀ b ∈ bs, 0 ≤ b ∧ b ≤ 255) : wordOf bs m < 18446744073709551616 := by
  have := pkw_range bs m hz
  unfold wordOf; omega
theorem wordOf_cast (bs : List Int) (m : Nat) (hz : ∀ b ∈ bs, 0 ≤ b ∧ b ≤ 255) : (wordOf bs m : Int) = pkw bs m := by
  have := pkw_range bs m hz
  unfold wordOf; omega
/-- The first k lines are read. -/
def St.fromK (bs : List Int) (n k : Nat) : St := { St.new n with pers := fun i j => if i < k then wordOf bs (8 * i + j) else 0 }
/-- The first m bytes are read. -/
def St.fromB (bs : List Int) (n m : Nat) : St := { St.new n with pers := fun i j => wordOf (bs.take m) (8 * i + j) }
theorem St.fromK_zero (bs : List Int) (n : Nat) : St.fromK bs n 0 = St.new n := by
  unfold St.fromK St.new
  simp
theorem St.fromB_zero (bs : List Int) (n : Nat) : St.fromB bs n 0 = St.new n := by
  unfold St.fromB St.new wordOf pkw
  simp [le]
theorem St.from_same (bs : List Int) (n : Nat) (hl : bs.length = 64 * n) : St.fromB bs n (64 * n) = St.fromK bs n n := by
  have h : (fun i j => wordOf (bs.take (64 * n)) (8 * i + j)) = fun i j => if i < n then wordOf bs (8 * i + j) else 0 := by
    funext i j
    rw [List.take_of_length_le (by omega)]
    split
    · rfl
    · unfold wordOf pkw
      rw [List.drop_of_length_le (by omega)]
      simp [le]
  unfold St.fromB St.fromK
  rw [h]
theorem St.fromK_ok (bs : List Int) (n k : Nat) (hz : ∀ b ∈ bs, 0 ≤ b ∧ b ≤ 255) (h0 : 1 ≤ n) (h1 : n ≤ 4096) : (St.fromK bs n k).Ok 0 :=
  { St.new_ok n h0 h1 with
    pers := fun i j => by
      show (if i < k then wordOf bs (8 * i + j) else 0) < _
      split
      · exact wordOf_lt bs _ hz
      · omega }
theorem list8 {α : Type} (l : List α) (h : l.length = 8) : ∃ a b c d e f g i, l = [a, b, c, d, e, f, g, i] := by
  match l, h with
  | [a, b, c, d, e, f, g, i], _ => exact ⟨a, b, c, d, e, f, g, i, rfl⟩
theorem wbytes_le (l : List Int) (hl : l.length = 8) (hz : ∀ b ∈ l, 0 ≤ b ∧ b ≤ 255) : wbytes (le l).toNat = l := by
  obtain ⟨a, b, c, d, e, f, g, i, rfl⟩ := list8 l hl
  have ha := hz a (by simp)
  have hb := hz b (by simp)
  have hc := hz c (by simp)
  have hd := hz d (by simp)
  have he := hz e (by simp)
  have hf := hz f (by simp)
  have hg := hz g (by simp)
  have hi := hz i (by simp)
  have h0 : ((le [a, b, c, d, e, f, g, i]).toNat : Int) = a + 256 * (b + 256 * (c + 256 * (d + 256 * (e + 256 * (f + 256 * (g + 256 * (i + 256 * 0))))))) := by
    simp only [le]; omega
  unfold wbytes
  rw [h0]
  simp only [List.cons.injEq, and_true]
  refine ⟨?_, ?_, ?_, ?_, ?_, ?_, ?_, ?_⟩ <;> omega
theorem lbytes_from (bs : List Int) (i j : Nat) (hj : 64 * i + 8 * j ≤ bs.length) (hz : ∀ b ∈ bs, 0 ≤ b ∧ b ≤ 255) : lbytes (fun j => wordOf bs (8 * i + j)) j = (bs.drop (64 * i)).take (8 * j) := by
  induction j with
  | zero => simp [lbytes]
  | succ j ih =>
    rw [lbytes_succ, ih (by omega), show 8 * (j + 1) = 8 * j + 8 by omega, List.take_add, List.drop_drop]
    congr 1
    unfold wordOf pkw
    rw [show 8 * (8 * i + j) = 64 * i + 8 * j by omega]
    exact wbytes_le _ (by rw [List.length_take, List.length_drop]; omega) (fun b hb => hz b (List.mem_of_mem_drop (List.mem_of_mem_take hb)))
theorem content_from (bs : List Int) (n m : Nat) (hm : m ≤ n) (hl : bs.length = 64 * n) (hz : ∀ b ∈ bs, 0 ≤ b ∧ b ≤ 255) : content (St.fromK bs n n) (fun _ => 0) m = bs.take (64 * m) := by
  induction m with
  | zero => simp [content]
  | succ m ih =>
    rw [content_succ, ih (by omega), show 64 * (m + 1) = 64 * m + 64 by omega, List.take_add]
    congr 1
    have e : applyW ((St.fromK bs n n).pers m) (((St.fromK bs n n).hist m).take 0) = fun j => wordOf bs (8 * m + j) := by
      funext j
      show (if m < n then wordOf bs (8 * m + j) else 0) = _
      rw [if_pos (by omega)]
    rw [e]
    exact lbytes_from bs m 8 (by omega) hz
theorem content_range (S : St) {M : Nat} (hS : S.Ok M) (k : Nat → Nat) (n : Nat) : ∀ b ∈ content S k n, 0 ≤ b ∧ b ≤ 255 := by
  intro b hb
  obtain ⟨i, _, hb⟩ := List.mem_flatMap.1 hb
  obtain ⟨j, _, hb⟩ := List.mem_flatMap.1 hb
  have := hS.applied i (k i) j
  generalize applyW (S.pers i) ((S.hist i).take (k i)) j = x at *
  simp only [wbytes, List.mem_cons, List.not_mem_nil, or_false] at hb
  rcases hb with h | h | h | h | h | h | h | h <;> subst h <;> omega
end Go.Proofs.YtnhddgmegnehaaaDoor.Dev
