/-
  CONTRACTS: decode at the law's codec own, with the row's capacity; Decode of a valid Pair of own.
-/
import Derived.Test.YtopnkhalmembhaaRecAwake
import Derived.Test.YtopnkhalmembhaaRecOwnD
set_option linter.unusedVariables false
set_option linter.unusedSimpArgs false
namespace Go.Proofs.Ytopnkhalmembhaa.Rec
open Go.ChangeShapes Go.WideShapes Go.ChangeAt Go.RowKit Go.Proofs.Ytopnkhalmembhaa.Mem Go.Proofs.Ytopnkhalmembhaa.Law Go.Proofs.Ytopnkhalmembhaa.Args Go.Proofs.Ytopnkhalmembhaa.Own
theorem own_ints2 {w : World} {base : Nat} {v : Value} {zs : List Int} {e : TypeId} (h : OwnInts .u64 e w base v zs) : ∃ A c, v = .slice A zs.length c ∧ Hid (zs.length ≤ c) ∧ Hid (IntsAt .u64 w w.heap.size A zs) := by
  obtain ⟨A, c, e, hc, _, _, hi⟩ := h.form
  exact ⟨A, c, e, Lib.hid hc, Lib.hid hi⟩
theorem own_dec_at (x : Int) (M c B : Nat) (A : Option Addr) (w : World) (hx : x ≤ 9) (hM : 1 ≤ M) (hM2 : M ≤ 4096) (hcap : M ≤ c) (H : Hid (IntsAt .u64 w B A (ows x (M - 1)))) (hB : B ≤ w.heap.size) :
    Calls Try.prog 122 #[ownV (M : Int), .slice A M c] w fun e w' => e = .returned (.tuple #[.int .u64 x, .bool true]) ∧ Below w.heap.size w w' := by
  obtain ⟨L, rfl⟩ : ∃ L, M = L + 1 := ⟨M - 1, by omega⟩
  exact own_dec_yes x L c B A w hx (by omega) hcap H hB
set_option maxRecDepth 100000 in
theorem dec_own_yes (x : Int) (M c B : Nat) (A : Option Addr) (w : World) (hx : x ≤ 9) (hM : 1 ≤ M) (hM2 : M ≤ 4096) (H : Hid (IntsAt .u64 w B A (ows x (M - 1)))) (hB : B ≤ w.heap.size) :
    Calls Try.prog 72 #[ownC (M : Int), .slice A M c] w fun e w' => e = .returned (.tuple #[.int .u64 x, .bool true]) ∧ Below w.heap.size w w' := by
  have hmf := makeFunc_run Try.prog
  have hah := ahead_own (ownV (M : Int))
  have HL : Hid ((ows x (M - 1)).length = M) := Lib.hid (by rw [ows_len]; omega)
  have HX := Lib.hid hx
  have HM1 := Lib.hid hM
  have HM2 := Lib.hid hM2
  clear hx hM hM2
  go_enter Try.func72, Try.ntmps72
  go_wp2
  go_region_with (first
    | (go_at_call 87; refine (clone_any A M c B (ows x (M - 1)) _ (by have := HM2.out; omega) HL.out (by first | exact H | exact Lib.hid (H.out.drewN _)) (by first | exact hB | simpa using hB)).mono ?_; rintro e w1 ⟨v1, rfl, HO⟩; obtain ⟨A1, c1, rfl, HC1, HI1⟩ := own_ints2 HO.out.1; rw [HL.out]; have HB1 : Hid (Below w.heap.size w w1) := Lib.hid (by first | exact HO.out.2 | exact (below_draws (Below.refl _ _) _).trans HO.out.2))
    | (go_at_call 122; refine (own_dec_at x M c1 _ A1 _ HX.out HM1.out HM2.out (by have := HC1.out; rw [HL.out] at this; exact this) (by first | exact HI1 | exact Lib.hid (HI1.out.drewN _)) (by first | exact Nat.le_refl _ | simp)).mono ?_; rintro e w2 ⟨rfl, hB2⟩; have HE : Hid (Below w.heap.size w w2) := Lib.hid (by first | exact Below.after HB1.out hB2 | exact Below.after (below_draws HB1.out _) hB2); clear hB2))
  all_goals
    go_wp2
    go_ret2
    exact ⟨rfl, HE.out⟩
theorem pws_at (x y : Int) (a b j : Nat) : ((pws x y a b).map (Value.int .u64)).getD j default = if j < a + b ∧ 1 ≤ a ∧ 1 ≤ b then .int .u64 ((pws x y a b).getD j 0) else ((pws x y a b).map (Value.int .u64)).getD j default := by
  split
  · rename_i h
    have := pws_len x y a b h.2.1 h.2.2
    simp only [List.getD_eq_getElem?_getD, List.getElem?_map]
    rw [List.getElem?_eq_getElem (by omega)]
    rfl
  · rfl
theorem pws_head (x y : Int) (a b i : Nat) (ha : 1 ≤ a) (hb : 1 ≤ b) (hi : i < (ows x (a - 1)).length) : ((pws x y a b).map (Value.int .u64)).getD (0 + i) default = .int .u64 ((ows x (a - 1)).getD i 0) := by
  rw [Nat.zero_add]
  rw [ows_len] at hi
  rw [pws_at, if_pos ⟨by omega, ha, hb⟩]
  unfold pws
  simp only [List.getD_eq_getElem?_getD]
  rw [List.getElem?_append_left (by rw [ows_len]; omega)]
theorem pws_tail (x y : Int) (a b i : Nat) (ha : 1 ≤ a) (hb : 1 ≤ b) (hi : i < (ows y (b - 1)).length) : ((pws x y a b).map (Value.int .u64)).getD (a + i) default = .int .u64 ((ows y (b - 1)).getD i 0) := by
  rw [ows_len] at hi
  rw [pws_at, if_pos ⟨by omega, ha, hb⟩]
  unfold pws
  simp only [List.getD_eq_getElem?_getD]
  rw [List.getElem?_append_right (by rw [ows_len]; omega), ows_len, show a + i - (a - 1 + 1) = i by omega]
/-- A row that holds a pair's words. -/
structure PRow (w : World) (tb : Nat) (T : TypeId) (q : Nat) (x y : Int) (a b : Nat) : Prop where
  blk : ∃ g, Blk w tb T q g ∧ ∀ j, j < q → g j = ((pws x y a b).map (Value.int .u64)).getD j default
  ha : 1 ≤ a
  hb : 1 ≤ b
  hq : a + b = q
theorem PRow.below {w w' : World} {tb q a b : Nat} {T : TypeId} {x y : Int} (h : PRow w tb T q x y a b) (k : Below w.heap.size w w') : PRow w' tb T q x y a b := by
  obtain ⟨⟨g, hg, hj⟩, h1, h2, h3⟩ := h
  exact ⟨⟨g, blk_below hg k, hj⟩, h1, h2, h3⟩
theorem PRow.head {w : World} {tb q a b : Nat} {T : TypeId} {x y : Int} (h : PRow w tb T q x y a b) : IntsAt .u64 w (tb + 1) (some ⟨tb, 0, none⟩) (ows x (a - 1)) := by
  obtain ⟨⟨g, hg, hj⟩, h1, h2, h3⟩ := h
  exact blk_ints hg (fun i hi => by
    have hi2 := hi
    rw [ows_len] at hi2
    exact ⟨by omega, (hj _ (by omega)).trans (pws_head x y a b i h1 h2 hi)⟩)
theorem PRow.tail {w : World} {tb q a b : Nat} {T : TypeId} {x y : Int} (h : PRow w tb T q x y a b) : IntsAt .u64 w (tb + 1) (some ⟨tb, a, none⟩) (ows y (b - 1)) := by
  obtain ⟨⟨g, hg, hj⟩, h1, h2, h3⟩ := h
  exact blk_ints hg (fun i hi => by
    have hi2 := hi
    rw [ows_len] at hi2
    exact ⟨by omega, (hj _ (by omega)).trans (pws_tail x y a b i h1 h2 hi)⟩)
theorem PRow.lt {w : World} {tb q a b : Nat} {T : TypeId} {x y : Int} (h : PRow w tb T q x y a b) : tb < w.heap.size := by
  obtain ⟨⟨g, hg, _⟩, _⟩ := h
  exact hg.lt
end Go.Proofs.Ytopnkhalmembhaa.Rec
