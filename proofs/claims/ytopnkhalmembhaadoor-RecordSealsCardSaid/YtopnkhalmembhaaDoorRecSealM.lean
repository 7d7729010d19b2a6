/-
  SEALED WORDS AS PLAIN LISTS: the words and their checksum; what a burst of 32 bits leaves of them. No program.
-/
import Derived.Test.YtopnkhalmembhaaDoorCrcWords
import Derived.Test.YtopnkhalmembhaaDoorDetMath
import Derived.Test.YtopnkhalmembhaaDoorPackMath
set_option linter.unusedVariables false
set_option linter.unusedSimpArgs false
namespace Go.Proofs.YtopnkhalmembhaaDoor.Seal
open Go.Proofs.YtopnkhalmembhaaDoor.CrcMath Go.Proofs.YtopnkhalmembhaaDoor.Base Go.Proofs.YtopnkhalmembhaaDoor.PackMath
theorem list8 {α : Type} (l : List α) (h : l.length = 8) : ∃ a b c d e f g i, l = [a, b, c, d, e, f, g, i] := by
  match l, h with
  | [a, b, c, d, e, f, g, i], _ => exact ⟨a, b, c, d, e, f, g, i, rfl⟩
theorem wb_eq (w : Nat) : wb w = [((w % 256 : Nat) : Int), ((w / 256 % 256 : Nat) : Int), ((w / 65536 % 256 : Nat) : Int), ((w / 16777216 % 256 : Nat) : Int), ((w / 4294967296 % 256 : Nat) : Int), ((w / 1099511627776 % 256 : Nat) : Int), ((w / 281474976710656 % 256 : Nat) : Int), ((w / 72057594037927936 % 256 : Nat) : Int)] := by
  unfold wb
  simp [List.range, List.range.loop]
theorem wb_le (l : List Int) (hl : l.length = 8) (hz : ∀ b ∈ l, 0 ≤ b ∧ b ≤ 255) : wb (le l).toNat = l := by
  obtain ⟨a, b, c, d, e, f, g, i, rfl⟩ := list8 l hl
  have ha := hz a (by simp)
  have hb := hz b (by simp)
  have hc := hz c (by simp)
  have hd := hz d (by simp)
  have he := hz e (by simp)
  have hf := hz f (by simp)
  have hg := hz g (by simp)
  have hi := hz i (by simp)
  have h0 : ((le [a, b, c, d, e, f, g, i]).toNat : Int) = a + 256 * (b + 256 * (c + 256 * (d + 256 * (e + 256 * (f + 256 * (g + 256 * (i + 256 * 0))))))) := by
    simp only [le]; omega
  rw [wb_eq]
  simp only [List.cons.injEq, and_true]
  refine ⟨?_, ?_, ?_, ?_, ?_, ?_, ?_, ?_⟩ <;> omega
theorem le_wb (w : Nat) (h : w < 18446744073709551616) : le (wb w) = (w : Int) := by
  rw [wb_eq]
  simp only [le]
  omega
theorem wbytes_append (xs ys : List Int) : wbytes (xs ++ ys) = wbytes xs ++ wbytes ys := by
  unfold wbytes
  rw [List.flatMap_append]
theorem wbytes_one (x : Int) : wbytes [x] = wb x.toNat := by simp [wbytes]
theorem wbytes_drop : ∀ (ws : List Int) (k : Nat), (wbytes ws).drop (8 * k) = wbytes (ws.drop k)
  | _, 0 => rfl
  | [], k + 1 => by simp [wbytes]
  | w :: ws, k + 1 => by
    have e : wbytes (w :: ws) = wb w.toNat ++ wbytes ws := by unfold wbytes; rw [List.flatMap_cons]
    rw [e, List.drop_succ_cons, ← wbytes_drop ws k, List.drop_append, wb_len, List.drop_of_length_le (by rw [wb_len]; omega), List.nil_append]
    congr 1
theorem pkw_wbytes (ws : List Int) (k : Nat) (hk : k < ws.length) (hz : ∀ z ∈ ws, 0 ≤ z ∧ z ≤ 18446744073709551615) : pkw (wbytes ws) k = ws.getD k 0 := by
  unfold pkw
  rw [wbytes_drop]
  obtain ⟨y, rest, hd⟩ : ∃ y rest, ws.drop k = y :: rest := by
    cases h : ws.drop k with
    | nil => exfalso; have := congrArg List.length h; rw [List.length_drop] at this; simp at this; omega
    | cons y rest => exact ⟨y, rest, rfl⟩
  have hy : ws.getD k 0 = y := by
    have : (ws.drop k)[0]? = some y := by rw [hd]; rfl
    rw [List.getElem?_drop] at this
    simp only [Nat.add_zero] at this
    simp [List.getD, this]
  have hm : y ∈ ws := List.mem_of_mem_drop (by rw [hd]; simp)
  have hr := hz y hm
  have e : wbytes (y :: rest) = wb y.toNat ++ wbytes rest := by unfold wbytes; rw [List.flatMap_cons]
  rw [hd, hy, e, List.take_append_of_le_length (by rw [wb_len]; omega), List.take_of_length_le (by rw [wb_len]; omega), le_wb _ (by omega)]
  omega
theorem pks_wbytes (ws : List Int) (hz : ∀ z ∈ ws, 0 ≤ z ∧ z ≤ 18446744073709551615) : pks (wbytes ws) ws.length = ws := by
  apply List.ext_getElem?
  intro i
  by_cases hi : i < ws.length
  · simp only [pks, List.getElem?_map, List.getElem?_range hi, Option.map_some]
    rw [pkw_wbytes ws i hi hz, List.getElem?_eq_getElem hi]
    simp [List.getD, hi]
  · rw [List.getElem?_eq_none (by rw [pks_len]; omega), List.getElem?_eq_none (by omega)]
theorem wbytes_pks (bs : List Int) (n : Nat) (hl : bs.length = 8 * n) (hz : ∀ b ∈ bs, 0 ≤ b ∧ b ≤ 255) : wbytes (pks bs n) = bs := by
  have h : ∀ k, k ≤ n → wbytes (pks bs k) = bs.take (8 * k) := by
    intro k
    induction k with
    | zero => intro _; simp [pks, wbytes]
    | succ k ih =>
      intro hk
      have e : pks bs (k + 1) = pks bs k ++ [pkw bs k] := by unfold pks; rw [List.range_succ, List.map_append]; rfl
      rw [e, wbytes_append, ih (by omega), wbytes_one, show 8 * (k + 1) = 8 * k + 8 by omega, List.take_add]
      congr 1
      exact wb_le _ (by rw [List.length_take, List.length_drop]; omega) (fun b hb => hz b (mem_sub hb))
  rw [h n (Nat.le_refl _), List.take_of_length_le (by omega)]
/-- The checksum of words. -/
def sumW (zs : List Int) : Int := ((crcN 0 (wbytes zs) : Nat) : Int)
def sealW (zs : List Int) : List Int := zs ++ [sumW zs]
theorem seal_len (zs : List Int) : (sealW zs).length = zs.length + 1 := by simp [sealW]
/-- Are these sealed words? -/
def opens (m : List Int) : Prop := m ≠ [] ∧ m.getD (m.length - 1) 0 = sumW (m.take (m.length - 1))
theorem seal_take (zs : List Int) : (sealW zs).take zs.length = zs := by unfold sealW; rw [List.take_append_of_le_length (Nat.le_refl _), List.take_of_length_le (Nat.le_refl _)]
theorem seal_last (zs : List Int) : (sealW zs).getD zs.length 0 = sumW zs := by
  unfold sealW
  simp [List.getD]
theorem seal_opens (zs : List Int) : opens (sealW zs) := by
  refine ⟨by simp [sealW], ?_⟩
  rw [seal_len, Nat.add_sub_cancel, seal_take, seal_last]
theorem sealed_sum (ms : List Int) : crcN 0 (wbytes (ms ++ [sumW ms])) = crcN 1214729159 [0, 0, 0, 0] := by
  have hs := crcN_lt 0 (wbytes ms)
  obtain ⟨s, hsv⟩ : ∃ s, crcN 0 (wbytes ms) = s := ⟨_, rfl⟩
  have e : wbytes (ms ++ [sumW ms]) = (wbytes ms ++ [((s % 256 : Nat) : Int), ((s / 256 % 256 : Nat) : Int), ((s / 65536 % 256 : Nat) : Int), ((s / 16777216 % 256 : Nat) : Int)]) ++ [0, 0, 0, 0] := by
    rw [wbytes_append, wbytes_one, List.append_assoc]
    congr 1
    unfold sumW
    rw [hsv, Int.toNat_natCast, wb_eq]
    simp only [List.cons_append, List.nil_append, List.cons.injEq, and_true]
    refine ⟨trivial, trivial, trivial, trivial, ?_, ?_, ?_, ?_⟩ <;> omega
  rw [e, crcN_append _ _ _ (fun z hz => by
    rcases List.mem_append.1 hz with h | h
    · exact wbytes_wf ms z h
    · simp only [List.mem_cons, List.not_mem_nil, or_false] at h
      rcases h with rfl | rfl | rfl | rfl <;> omega), residue (wbytes ms) (wbytes_wf ms) s hsv]
theorem opens_sum (m : List Int) (h : opens m) : crcN 0 (wbytes m) = crcN 1214729159 [0, 0, 0, 0] := by
  obtain ⟨h0, h1⟩ := h
  have hp : 0 < m.length := List.length_pos_iff.2 h0
  have e : m = m.take (m.length - 1) ++ [sumW (m.take (m.length - 1))] := by
    have h2 := List.take_succ_eq_append_getElem (l := m) (i := m.length - 1) (by omega)
    rw [show m.length - 1 + 1 = m.length by omega, List.take_of_length_le (Nat.le_refl _)] at h2
    have h3 : m[m.length - 1] = m.getD (m.length - 1) 0 := by rw [List.getD_eq_getElem?_getD, List.getElem?_eq_getElem (by omega)]; rfl
    rw [h3, h1] at h2
    exact h2
  rw [e]
  exact sealed_sum _
/-- Words that a burst has changed are not sealed. -/
theorem caught (zs : List Int) (bit : Int) (pat : Nat) (hz : ∀ z ∈ zs, 0 ≤ z ∧ z ≤ 18446744073709551615) (hb : ∀ z ∈ brs (wbytes (sealW zs)) bit pat 32, 0 ≤ z ∧ z ≤ 255)
    (h : opens (pks (brs (wbytes (sealW zs)) bit pat 32) (zs.length + 1))) : pks (brs (wbytes (sealW zs)) bit pat 32) (zs.length + 1) = sealW zs := by
  have hl : (brs (wbytes (sealW zs)) bit pat 32).length = 8 * (zs.length + 1) := by rw [brs_len, wbytes_len, seal_len]
  have h1 := opens_sum _ h
  rw [wbytes_pks _ _ hl hb] at h1
  have h2 := opens_sum _ (seal_opens zs)
  have h3 := (detects (wbytes (sealW zs)) bit pat (wbytes_wf _) hb).1 (h1.trans h2.symm)
  rw [h3, ← seal_len]
  exact pks_wbytes _ (fun z hz2 => by
    rcases List.mem_append.1 hz2 with h | h
    · exact hz z h
    · have := List.mem_singleton.1 h
      have := crcN_lt 0 (wbytes zs)
      unfold sumW at *
      omega)
end Go.Proofs.YtopnkhalmembhaaDoor.Seal
