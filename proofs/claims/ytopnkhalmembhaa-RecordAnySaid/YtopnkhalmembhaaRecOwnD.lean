/-
  A valid Pair of own: its sizes, its words.
-/
import Derived.Test.YtopnkhalmembhaaRecOwnC
set_option linter.unusedVariables false
set_option linter.unusedSimpArgs false
namespace Go.Proofs.Ytopnkhalmembhaa.Rec
open Go.ChangeShapes Go.WideShapes Go.ChangeAt Go.RowKit Go.Proofs.Ytopnkhalmembhaa.Mem Go.Proofs.Ytopnkhalmembhaa.Law Go.Proofs.Ytopnkhalmembhaa.Args Go.Proofs.Ytopnkhalmembhaa.Own
theorem wf_nat {a : Nat} (h : a ≤ 4096) : (Lit.int .i64 (a : Int)).wf = true := by
  have : -9223372036854775808 ≤ (a : Int) ∧ (a : Int) ≤ 9223372036854775807 := by omega
  simpa [Lit.wf, IntKind.min, IntKind.max, IntKind.bits, IntKind.signed] using this
theorem o2_sizes_ok (a b q : Nat) (ha : 1 ≤ a) (hb : 1 ≤ b) (hq : q ≤ 4096) (hab : a + b = q) (w : World) :
    Calls Try.prog 69 #[o2 (a : Int) (b : Int)] w fun e w' => e = .returned (.tuple #[.int .i64 (a : Int), .int .i64 (q : Int)]) ∧ Below w.heap.size w w' := by
  have := o2_sizes (a : Int) (b : Int) (wf_nat (by omega)) (wf_nat (by omega)) w
  rw [vs_ok (n := (a : Int)) (by omega) (by omega), vs_ok (n := (b : Int)) (by omega) (by omega), tf_ok (by omega), tw_ok (by omega), show (a : Int) + (b : Int) = (q : Int) by omega] at this
  exact this
theorem own_enc_at (x : Int) (M b off c n : Nat) (T : TypeId) (g : Nat → Value) (w : World) (hx : x ≤ 9) (H : Hid (Blk w b T n g)) (hM : 1 ≤ M) (hM2 : M ≤ 4096) (hoff : off + M ≤ n) :
    Calls Try.prog 123 #[ownV (M : Int), .int .u64 x, .slice (some ⟨b, off, none⟩) M c] w fun e w' => e = .returned (.bool true) ∧ Hid (Blk w' b T n (put g off ((ows x (M - 1)).map (Value.int .u64))) ∧ Only (· = b) w w') := by
  obtain ⟨L, rfl⟩ : ∃ L, M = L + 1 := ⟨M - 1, by omega⟩
  exact own_enc_yes x L b off c n T g w hx H hoff (by omega)
/-- The words of a pair. -/
def pws (x y : Int) (a b : Nat) : List Int := ows x (a - 1) ++ ows y (b - 1)
theorem pws_len (x y : Int) (a b : Nat) (ha : 1 ≤ a) (hb : 1 ≤ b) : (pws x y a b).length = a + b := by simp [pws, ows]; omega
theorem pws_put (x y : Int) (a b j : Nat) (g : Nat → Value) (ha : 1 ≤ a) (hb : 1 ≤ b) (hj : j < a + b) :
    put (put g 0 ((ows x (a - 1)).map (Value.int .u64))) a ((ows y (b - 1)).map (Value.int .u64)) j = ((pws x y a b).map (Value.int .u64)).getD j default := by
  have l1 : ((ows x (a - 1)).map (Value.int .u64)).length = a := by simp [ows]; omega
  have l2 : ((ows y (b - 1)).map (Value.int .u64)).length = b := by simp [ows]; omega
  unfold pws
  rw [List.map_append]
  by_cases h : j < a
  · rw [put_out _ _ _ (.inl h)]
    have := put_in g 0 ((ows x (a - 1)).map (Value.int .u64)) (j := j) (by omega)
    rw [Nat.zero_add] at this
    rw [this]
    simp only [List.getD_eq_getElem?_getD]
    rw [List.getElem?_append_left (by omega)]
  · have := put_in (put g 0 ((ows x (a - 1)).map (Value.int .u64))) a ((ows y (b - 1)).map (Value.int .u64)) (j := j - a) (by omega)
    rw [show a + (j - a) = j by omega] at this
    rw [this]
    simp only [List.getD_eq_getElem?_getD]
    rw [List.getElem?_append_right (by omega), l1]
abbrev FourAt (w' : World) (z : Nat) (x y : Int) (a b : Nat) : Prop := w'.cell? ⟨z + 1, 0, none⟩ = some (.int .u64 x) ∧ w'.cell? ⟨z + 1, 1, none⟩ = some (.int .u64 y) ∧ w'.cell? ⟨z, 0, none⟩ = some (ownC (a : Int)) ∧ w'.cell? ⟨z, 1, none⟩ = some (ownC (b : Int))
theorem four {w : World} {z : Nat} {x y : Int} {a b : Nat} (h : Blk w (z + 1) 93 2 (twoG (.int .u64 x) (.int .u64 y))) (k : Blk w z 87 2 (twoG (ownC (a : Int)) (ownC (b : Int)))) : FourAt w z x y a b := ⟨two0 h, two1 h, two0 k, two1 k⟩
theorem below_draw' {w w1 : World} {k : Nat} (h : Below k w w1) : Below k w w1.drew := Below.drew h
end Go.Proofs.Ytopnkhalmembhaa.Rec
