/-
  THE REFERENCE's DEVICE: value, Load, put, Store, CAS.
-/
import Derived.Test.YtmipodnfkilcfaaRWords
set_option linter.unusedVariables false
set_option linter.unusedSimpArgs false
namespace Go.Proofs.Ytmipodnfkilcfaa.Dev
open Go.ChangeShapes Go.WideShapes Go.ChangeAt Go.RowKit Go.Proofs.Ytmipodnfkilcfaa.Mem Go.Proofs.Ytmipodnfkilcfaa.Args Go.Proofs.Ytmipodnfkilcfaa.Own
theorem rl_pers (A : RAdr) (S : St) (k j : Nat) (hj : j < 8) : rlinesG A S (k * 10 + j) = wordG (S.pers k) j := by
  unfold rlinesG
  rw [if_pos (by omega), show (k * 10 + j) / 10 = k by omega, show (k * 10 + j) % 10 = j by omega]
theorem rl_hist (A : RAdr) (S : St) (k : Nat) : rlinesG A S (k * 10 + 8) = A.hv k := by
  unfold rlinesG
  rw [if_neg (by omega), if_pos (by omega), show (k * 10 + 8) / 10 = k by omega]
theorem rl_gone (A : RAdr) (S : St) (k : Nat) : rlinesG A S (k * 10 + 9) = .int .i64 (S.gone k : Int) := by
  unfold rlinesG
  rw [if_neg (by omega), if_neg (by omega), show (k * 10 + 9) / 10 = k by omega]
/-- The cells of line k, and its history's form. -/
theorem IsRef.line {w : World} {base : Nat} {A : RAdr} {S : St} (h : IsRef w base A S) {k : Nat} (hk : k < S.n) :
    ∃ C c, A.hv k = .slice C (S.hist k).length c ∧ (S.hist k).length ≤ c ∧ c ≤ maxLen ∧ (∀ j, j < 8 → w.cell? ⟨A.lb, k * 10 + j, none⟩ = some (.int .u64 (S.pers k j : Int))) ∧ w.cell? ⟨A.lb, k * 10 + 8, none⟩ = some (.slice C (S.hist k).length c) ∧
      w.cell? ⟨A.lb, k * 10 + 9, none⟩ = some (.int .i64 (S.gone k : Int)) ∧ (0 < (S.hist k).length → ∃ g, C = some ⟨g, 0, none⟩ ∧ g < w.heap.size ∧ ∀ o, o < (S.hist k).length * 2 → w.cell? ⟨g, o, none⟩ = (hcells (S.hist k))[o]?) := by
  obtain ⟨C, c, e, h1, h2, h3, h4⟩ := (h.hist k hk).1.form
  refine ⟨C, c, e, h1, h2, fun j hj => ?_, ?_, ?_, fun h0 => ?_⟩
  · rw [h.lines.cell (by omega), rl_pers _ _ _ _ hj]; rfl
  · rw [h.lines.cell (by omega), rl_hist, e]
  · rw [h.lines.cell (by omega), rl_gone]
  · rcases hC : C with _ | ad
    · have := h3 hC; omega
    · have hob : (A.hv k).ownBlock = some ad.block := by rw [e, hC]; rfl
      obtain ⟨h5, h6⟩ := h4 ad.block hob
      exact ⟨ad.block, by rw [← hC]; exact h5, ((h.hist k hk).1.lt _ hob).2, h6⟩
theorem ixr0 (a b c d e f g h : Int) (w : World) : (Instr.index 56 (.agg #[.int .u64 a, .int .u64 b, .int .u64 c, .int .u64 d, .int .u64 e, .int .u64 f, .int .u64 g, .int .u64 h]) (.int .u64 0)).run Try.prog w = .ok (.int .u64 a) w := by kernel_rfl
theorem ixr1 (a b c d e f g h : Int) (w : World) : (Instr.index 56 (.agg #[.int .u64 a, .int .u64 b, .int .u64 c, .int .u64 d, .int .u64 e, .int .u64 f, .int .u64 g, .int .u64 h]) (.int .u64 1)).run Try.prog w = .ok (.int .u64 b) w := by kernel_rfl
theorem ixr2 (a b c d e f g h : Int) (w : World) : (Instr.index 56 (.agg #[.int .u64 a, .int .u64 b, .int .u64 c, .int .u64 d, .int .u64 e, .int .u64 f, .int .u64 g, .int .u64 h]) (.int .u64 2)).run Try.prog w = .ok (.int .u64 c) w := by kernel_rfl
theorem ixr3 (a b c d e f g h : Int) (w : World) : (Instr.index 56 (.agg #[.int .u64 a, .int .u64 b, .int .u64 c, .int .u64 d, .int .u64 e, .int .u64 f, .int .u64 g, .int .u64 h]) (.int .u64 3)).run Try.prog w = .ok (.int .u64 d) w := by kernel_rfl
theorem ixr4 (a b c d e f g h : Int) (w : World) : (Instr.index 56 (.agg #[.int .u64 a, .int .u64 b, .int .u64 c, .int .u64 d, .int .u64 e, .int .u64 f, .int .u64 g, .int .u64 h]) (.int .u64 4)).run Try.prog w = .ok (.int .u64 e) w := by kernel_rfl
theorem ixr5 (a b c d e f g h : Int) (w : World) : (Instr.index 56 (.agg #[.int .u64 a, .int .u64 b, .int .u64 c, .int .u64 d, .int .u64 e, .int .u64 f, .int .u64 g, .int .u64 h]) (.int .u64 5)).run Try.prog w = .ok (.int .u64 f) w := by kernel_rfl
theorem ixr6 (a b c d e f g h : Int) (w : World) : (Instr.index 56 (.agg #[.int .u64 a, .int .u64 b, .int .u64 c, .int .u64 d, .int .u64 e, .int .u64 f, .int .u64 g, .int .u64 h]) (.int .u64 6)).run Try.prog w = .ok (.int .u64 g) w := by kernel_rfl
theorem ixr7 (a b c d e f g h : Int) (w : World) : (Instr.index 56 (.agg #[.int .u64 a, .int .u64 b, .int .u64 c, .int .u64 d, .int .u64 e, .int .u64 f, .int .u64 g, .int .u64 h]) (.int .u64 7)).run Try.prog w = .ok (.int .u64 h) w := by kernel_rfl
theorem index8r (f : Nat → Nat) (j : Nat) (hj : j < 8) (w : World) : (Instr.index 56 (.agg #[.int .u64 (f 0 : Int), .int .u64 (f 1 : Int), .int .u64 (f 2 : Int), .int .u64 (f 3 : Int), .int .u64 (f 4 : Int), .int .u64 (f 5 : Int), .int .u64 (f 6 : Int), .int .u64 (f 7 : Int)]) (.int .u64 (j : Int))).run Try.prog w = .ok (.int .u64 (f j : Int)) w := by
  have h : j = 0 ∨ j = 1 ∨ j = 2 ∨ j = 3 ∨ j = 4 ∨ j = 5 ∨ j = 6 ∨ j = 7 := by omega
  rcases h with rfl | rfl | rfl | rfl | rfl | rfl | rfl | rfl
  · exact ixr0 (f 0) (f 1) (f 2) (f 3) (f 4) (f 5) (f 6) (f 7) w
  · exact ixr1 (f 0) (f 1) (f 2) (f 3) (f 4) (f 5) (f 6) (f 7) w
  · exact ixr2 (f 0) (f 1) (f 2) (f 3) (f 4) (f 5) (f 6) (f 7) w
  · exact ixr3 (f 0) (f 1) (f 2) (f 3) (f 4) (f 5) (f 6) (f 7) w
  · exact ixr4 (f 0) (f 1) (f 2) (f 3) (f 4) (f 5) (f 6) (f 7) w
  · exact ixr5 (f 0) (f 1) (f 2) (f 3) (f 4) (f 5) (f 6) (f 7) w
  · exact ixr6 (f 0) (f 1) (f 2) (f 3) (f 4) (f 5) (f 6) (f 7) w
  · exact ixr7 (f 0) (f 1) (f 2) (f 3) (f 4) (f 5) (f 6) (f 7) w
set_option maxRecDepth 100000 in
theorem rvalue_any (w : World) (base M : Nat) (A : RAdr) (S : St) (o : Nat) (h : IsRef w base A S) (hS : S.Ok M) (hM : M ≤ 1000000) (hw : S.isW o = true) (ho : o < 18446744073709551616) :
    Calls Try.prog 61 #[.pointer (some ⟨A.d, 0, none⟩), .int .u64 (o : Int)] w fun e w' => e = .returned (.int .u64 (S.val o : Int)) ∧ Below w.heap.size w w' := by
  obtain ⟨hk, h8⟩ := St.isW_lt hw
  have c0 := RB.c0 h.dev
  obtain ⟨C, c, _, h1, h2, hp, hh, hg, hr⟩ := h.line hk
  obtain ⟨k, hkk⟩ : ∃ k, o / 64 = k := ⟨_, rfl⟩
  obtain ⟨p, hpp⟩ : ∃ p, o / 8 % 8 = p := ⟨_, rfl⟩
  obtain ⟨r, hrr⟩ : ∃ r, o % 64 = r := ⟨_, rfl⟩
  have HV : Hid (S.val o = applyW (S.pers k) ((S.hist k).take (S.hist k).length) p) := by
    unfold Hid St.val St.cur
    rw [hkk, hpp, List.take_length]
  rw [hkk] at hk hp hh hg hr h1
  have hlt := h.lines.lt
  have hsum := hS.sum k
  have HWD := fun (w2 : World) (hb : Below w.heap.size w w2) => Lib.hid (words_any w2 w.heap.size (S.hist k).length (S.hist k).length c C (S.gone k : Int) (S.pers k) (S.hist k) rfl h1 h2 (Nat.le_refl _) (fun h0 => by
    obtain ⟨g, e1, e2, e3⟩ := hr h0
    exact ⟨g, e1, e2, fun o ho => (hb.cell (p := ⟨g, o, none⟩) e2).trans (e3 o ho)⟩) hb.size (hS.fine k))
  have hp8 : p < 8 := by omega
  have hd : (o : Int) / 64 = (k : Int) := by omega
  have hmo : (o : Int) % 64 = (r : Int) := by omega
  have hto : (o : Int).tmod 64 = (r : Int) := by rw [Int.tmod_eq_emod_of_nonneg (by omega)]; exact hmo
  have hdr : (r : Int) / 8 = (p : Int) := by omega
  have htr : (r : Int).tdiv 8 = (p : Int) := by rw [Int.tdiv_eq_ediv_of_nonneg (by omega)]; exact hdr
  have hn := hS.n1
  have hkn : (k : Int) < (S.n : Int) := by omega
  have h0 := hp 0 (by decide)
  have h11 := hp 1 (by decide)
  have h22 := hp 2 (by decide)
  have h33 := hp 3 (by decide)
  have h44 := hp 4 (by decide)
  have h55 := hp 5 (by decide)
  have h66 := hp 6 (by decide)
  have h77 := hp 7 (by decide)
  rw [Nat.add_zero] at h0
  obtain ⟨F, hF⟩ : ∃ F, applyW (S.pers k) ((S.hist k).take (S.hist k).length) = F := ⟨_, rfl⟩
  rw [hF] at HWD HV
  have HX := index8r F p hp8
  clear h hS hp hr hkk hpp hrr hF
  generalize S.pers k = b at *
  go_enter Try.func61, Try.ntmps61
  go_wp2_with (go_at_call 57; refine ((HWD _ ((Below.refl _ _).alloc (Nat.le_refl _) _)).out).mono ?_; rintro e w2 ⟨he, hb⟩; simp only [words8, wordG] at he; subst he; have HB := Lib.hid hb; clear hb)
  go_ret
  exact ⟨ret_int (by rw [HV.out]), ((Below.refl _ _).alloc (Nat.le_refl _) _).trans (HB.out.mono (by simp))⟩
end Go.Proofs.Ytmipodnfkilcfaa.Dev
