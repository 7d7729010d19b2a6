/-
  CONTRACTS: decode of the types int64, uint64, uint64: the codec's Decode of a clone of the words.
-/
import Derived.Test.YtopnkhalmembhaaDoorRecArrE
set_option linter.unusedVariables false
set_option linter.unusedSimpArgs false
namespace Go.Proofs.YtopnkhalmembhaaDoor.Rec
open Go.ChangeShapes Go.WideShapes Go.ChangeAt Go.RowKit Go.Proofs.YtopnkhalmembhaaDoor.Mem Go.Proofs.YtopnkhalmembhaaDoor.Law Go.Proofs.YtopnkhalmembhaaDoor.Args Go.Proofs.YtopnkhalmembhaaDoor.Own
theorem own_ints {w : World} {base : Nat} {v : Value} {zs : List Int} {e : TypeId} (h : OwnInts .u64 e w base v zs) : ∃ A c, v = .slice A zs.length c ∧ Hid (IntsAt .u64 w w.heap.size A zs) := by
  obtain ⟨A, c, e, _, _, _, hi⟩ := h.form
  exact ⟨A, c, e, Lib.hid hi⟩
theorem ahead_int (v : Value) (w : World) : (nilAhead 235 36 v "Decode").run Tryd.prog w = .ok (some false) w := by kernel_rfl
set_option maxRecDepth 100000 in
theorem dec_int (R : Value → Bool → World → Prop) (recv : Value) (A : Option Addr) (c n B : Nat) (zs : List Int) (w : World) (hn : n ≤ 17592186043904) (hl : zs.length = n) (H : Hid (IntsAt .u64 w B A zs)) (hB : B ≤ w.heap.size)
    (hD : ∀ A1 c1 w1, Below w.heap.size w w1 → Hid (IntsAt .u64 w1 w1.heap.size A1 zs) → Calls Tryd.prog 40 #[recv, .slice A1 n c1] w1 fun e w' => ∃ a b, e = .returned (.tuple #[a, .bool b]) ∧ R a b w' ∧ Below w1.heap.size w1 w') :
    Calls Tryd.prog 20 #[.iface 36 recv, .slice A n c] w fun e w' => ∃ a b, e = .returned (.tuple #[a, .bool b]) ∧ Hid (R a b w' ∧ Below w.heap.size w w') := by
  have hmf := makeFunc_run Tryd.prog
  have hah := ahead_int recv
  have HL := Lib.hid hl
  have HD := Lib.hid hD
  clear hl hD
  go_enter Tryd.func20, Tryd.ntmps20
  go_wp2
  go_region_with (first
    | (go_at_call 16; refine (clone_any A n c B zs _ hn HL.out (by first | exact H | exact Lib.hid (H.out.drewN _)) (by first | exact hB | simpa using hB)).mono ?_; rintro e w1 ⟨v1, rfl, HO⟩; obtain ⟨A1, c1, rfl, HI1⟩ := own_ints HO.out.1; rw [HL.out]; have HB1 : Hid (Below w.heap.size w w1) := Lib.hid (by first | exact HO.out.2 | exact (below_draws (Below.refl _ _) _).trans HO.out.2))
    | (go_at_call 40; refine (HD.out A1 c1 _ (by first | exact HB1.out | exact below_draws HB1.out _) (by first | exact HI1 | exact Lib.hid (HI1.out.drewN _))).mono ?_; rintro e w2 ⟨a2, b2, rfl, hR, hB2⟩; have HE : Hid (R a2 b2 w2 ∧ Below w.heap.size w w2) := Lib.hid ⟨hR, by first | exact Below.after HB1.out hB2 | exact Below.after (below_draws HB1.out _) hB2⟩; clear hR hB2))
  all_goals
    go_wp2
    go_ret2
    exact ⟨_, _, rfl, HE⟩
theorem ahead_uint (v : Value) (w : World) : (nilAhead 235 100 v "Decode").run Tryd.prog w = .ok (some false) w := by kernel_rfl
end Go.Proofs.YtopnkhalmembhaaDoor.Rec
