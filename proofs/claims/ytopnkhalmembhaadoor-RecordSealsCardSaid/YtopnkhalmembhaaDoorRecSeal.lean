/-
  CONTRACTS: Seal and Open.
-/
import Derived.Test.YtopnkhalmembhaaDoorRecAwake
import Derived.Test.YtopnkhalmembhaaDoorRecSealM
import Derived.Test.YtopnkhalmembhaaDoorCrcLaid
set_option linter.unusedVariables false
set_option linter.unusedSimpArgs false
namespace Go.Proofs.YtopnkhalmembhaaDoor.Seal
open Go.ChangeShapes Go.WideShapes Go.ChangeAt Go.RowKit Go.Proofs.YtopnkhalmembhaaDoor.Mem Go.Proofs.YtopnkhalmembhaaDoor.Law Go.Proofs.YtopnkhalmembhaaDoor.Args Go.Proofs.YtopnkhalmembhaaDoor.Own Go.Proofs.YtopnkhalmembhaaDoor.Base Go.Proofs.YtopnkhalmembhaaDoor.CrcMath Go.Proofs.YtopnkhalmembhaaDoor.Rec
theorem info64' : (Tryd.prog.info? 27).map (fun i => (i.zero, i.size, i.bytes)) = some (some (.int .u64 0), 1, 8) := by kernel_rfl
set_option maxRecDepth 100000 in
theorem seal_any (A : Option Addr) (n c B : Nat) (zs : List Int) (w : World) (hl : zs.length = n) (hn : n ≤ 1000000) (ht : Hid (Tab w)) (hr : Hid (IntsAt .u64 w B A zs)) (hB : B ≤ w.heap.size) (hw : Hid (∀ z ∈ zs, (Lit.int .u64 z).wf = true)) :
    Calls Tryd.prog 5 #[.slice A n c] w fun e w' => ∃ v, e = .returned v ∧ Hid (OwnInts .u64 27 w' w.heap.size v (sealW zs) ∧ Below w.heap.size w w') := by
  obtain ⟨i0, hi, hz0, hz1, hz2⟩ := info_parts info64'
  have HI := Lib.hid hi
  have HZ0 := Lib.hid hz0
  have HZ1 := Lib.hid hz1
  have HZ2 := Lib.hid hz2
  have HL := Lib.hid hl
  have HC := Lib.hid (clone_any A n c B zs w (by omega) hl hr hB)
  obtain ⟨s, hs⟩ : ∃ s, crcN 0 (wbytes zs) = s := ⟨_, rfl⟩
  have hsl : s < 4294967296 := by rw [← hs]; exact crcN_lt 0 _
  have HSW : Hid (sealW zs = zs ++ [(s : Int)]) := Lib.hid (by unfold sealW sumW; rw [hs])
  have HW : Hid (∀ w1, Below w.heap.size w w1 → Calls Tryd.prog 7 #[.slice A n c] w1 fun e w' => e = .returned (.int .u32 (s : Int)) ∧ ∃ n, w' = w1.drewN n) := Lib.hid (fun w1 hb => by
    have := words_any A n c B zs w1 HL.out (by omega) (Lib.hid (ht.out.below hb)) (Lib.hid (hr.out.below (hb.mono hB))) hw
    rw [hs] at this
    exact this)
  clear hi hz0 hz1 hz2 hl hs
  go_enter Tryd.func5, Tryd.ntmps5
  go_wp2_with (first
    | (go_at_call 16; go_must (refine HC.out.mono ?_); rintro e w1 ⟨v1, rfl, HO⟩; have HB1 := Lib.hid HO.out.2)
    | (go_at_call 7; go_must (refine (HW.out _ HB1.out).mono ?_); rintro e w2 ⟨rfl, k, hw2⟩; have HO2 : Hid (OwnInts .u64 27 w2 w.heap.size v1 zs ∧ Below w.heap.size w w2) := Lib.hid (by rw [hw2]; exact ⟨HO.out.1.drewN k, below_draws HB1.out k⟩); clear hw2)
    | (at_builtin; (refine wpList_app (by simp [Region.wanted, yielded]) (.tmp 4) (.tmp 8) 22 rfl (v := v1) (B := w2.heap.size + 1) (c := 1) (A := some ⟨w2.heap.size, 0, none⟩) (zs := [(s : Int)]) Tryd.underlying22 HI.out HZ0.out HZ1.out HZ2.out rfl rfl (HO2.out.1.alloc _) rfl (IntsAt.new .u64 w2 27 (0, 0) [(s : Int)]) rfl (by rw [HL.out]; simp [maxLen]; omega) (by rw [HL.out]; omega) (Nat.le_trans HO2.out.2.size (by simp)) ?_); intro v3 w3 ho3 hg3 ha3; have HO3 := Lib.hid ho3; have HB3 : Hid (Below w.heap.size w w3) := Lib.hid ((HO2.out.2.alloc HO2.out.2.size _).trans ((HO2.out.1.alloc _).grownBelow hg3 (Nat.le_trans HO2.out.2.size (by simp)))); clear ho3 hg3 ha3))
  go_ret
  exact ⟨_, rfl, Lib.hid ⟨by rw [HSW.out]; exact HO3.out, HB3.out⟩⟩
theorem open_nil (w : World) (A : Option Addr) (c : Nat) : Calls Tryd.prog 8 #[.slice A 0 c] w fun e w' => e = .returned (.tuple #[.slice none 0 0, .int .i64 10]) ∧ w' = w := by
  go_enter Tryd.func8, Tryd.ntmps8
  go_wp2
  go_ret2
  exact ⟨rfl, rfl⟩
set_option maxRecDepth 100000 in
theorem open_gen (A : Option Addr) (m c B : Nat) (zs : List Int) (w : World) (hl : zs.length = m + 1) (hn : m ≤ 1000000) (hmc : m + 1 ≤ c) (ht : Hid (Tab w)) (hr : Hid (IntsAt .u64 w B A zs)) (hB : B ≤ w.heap.size) (hw : Hid (∀ z ∈ zs, (Lit.int .u64 z).wf = true)) :
    Calls Tryd.prog 8 #[.slice A (m + 1) c] w fun e w' => (∃ A' c', e = .returned (.tuple #[.slice A' m c', .int .i64 0]) ∧ Hid (opens zs ∧ IntsAt .u64 w' w'.heap.size A' (zs.take m) ∧ Below w.heap.size w w')) ∨ (e = .returned (.tuple #[.slice none 0 0, .int .i64 10]) ∧ Hid (¬ opens zs ∧ Below w.heap.size w w')) := by
  obtain ⟨s, hs⟩ : ∃ s, crcN 0 (wbytes (zs.take m)) = s := ⟨_, rfl⟩
  have hsl : s < 4294967296 := by rw [← hs]; exact crcN_lt 0 _
  obtain ⟨x, hx⟩ : ∃ x, zs.getD m 0 = x := ⟨_, rfl⟩
  have HOP : Hid (opens zs ↔ x = (s : Int)) := Lib.hid (by
    unfold opens sumW
    rw [hl, Nat.add_sub_cancel, hx, hs]
    exact ⟨fun h => h.2, fun h => ⟨by intro e; rw [e] at hl; simp at hl, h⟩⟩)
  have HTL : Hid ((zs.take m).length = m) := Lib.hid (by rw [List.length_take]; omega)
  have HTW : Hid (∀ z ∈ zs.take m, (Lit.int .u64 z).wf = true) := Lib.hid (fun z hz => hw.out z (List.mem_of_mem_take hz))
  have HW : Hid (∀ w1, Below w.heap.size w w1 → Calls Tryd.prog 7 #[.slice A m c] w1 fun e w' => e = .returned (.int .u32 (s : Int)) ∧ ∃ n, w' = w1.drewN n) := Lib.hid (fun w1 hb => by
    have := words_any A m c B (zs.take m) w1 HTL.out (by omega) (Lib.hid (ht.out.below hb)) (Lib.hid ((hr.out.take m).below (hb.mono hB))) HTW
    rw [hs] at this
    exact this)
  have HC : Hid (∀ w1, Below w.heap.size w w1 → Calls Tryd.prog 16 #[.slice A m c] w1 fun e w' => ∃ v, e = .returned v ∧ Hid (OwnInts .u64 27 w' w1.heap.size v (zs.take m) ∧ Below w1.heap.size w1 w')) := Lib.hid (fun w1 hb => clone_any A m c B (zs.take m) w1 (by omega) HTL.out (Lib.hid ((hr.out.take m).below (hb.mono hB))) (Nat.le_trans hB hb.size))
  obtain ⟨ad, rfl, hadb, hcell⟩ := hr.out m (by omega)
  rw [hx] at hcell
  obtain ⟨M, hM⟩ : ∃ M, m + 1 = M := ⟨_, rfl⟩
  rw [hM]
  have hm1 : (M : Int) - 1 = (m : Int) := by omega
  have hm2 : wrap64 ((M : Int) - 1) = (m : Int) := by unfold wrap64; omega
  have hM0 : ((M : Int) == 0) = false := by simp; omega
  have hmM : m < M := by omega
  have hmc2 : m ≤ c := by omega
  have hws : IntKind.u64.wrap (s : Int) = (s : Int) := IntWalk.u64_in _ ⟨by omega, by omega⟩
  have hB0 : Below w.heap.size w w := Below.refl _ _
  clear hl hs hx hM hmc
  go_enter Tryd.func8, Tryd.ntmps8
  go_upto_region 4 with fail
  go_cut [20] from 11 (fun c wx => c = .bool (x != (s : Int)) ∧ Hid (Below w.heap.size w wx))
  case first =>
    go_region_with (go_at_call 7; refine (HW.out _ (by first | exact hB0 | exact below_draws hB0 _)).mono ?_; rintro e w2 ⟨rfl, k, hw2⟩; have HB2 : Hid (Below w.heap.size w w2) := Lib.hid (by rw [hw2]; first | exact below_draws hB0 _ | exact below_draws (below_draws hB0 _) _); have hc2 : w2.cell? (ad.add m) = some (.int .u64 x) := (by rw [hw2]; exact hcell); clear hw2)
    all_goals (go_wp2; go_meet; exact ⟨rfl, HB2⟩)
  case rest =>
    obtain ⟨rfl, HC2⟩ := hcut
    by_cases hxs : x = (s : Int)
    · have hb : (x != (s : Int)) = false := by simp [hxs]
      go_wp2_with (go_at_call 16; go_must (refine (HC.out _ HC2.out).mono ?_); rintro e w3 ⟨v3, rfl, HO⟩; obtain ⟨A3, c3, rfl, _, _, _, hi3⟩ := OwnInts.form HO.out.1; have HI3 := Lib.hid hi3; clear hi3; rw [HTL.out])
      go_ret2
      exact .inl ⟨A3, c3, rfl, Lib.hid ⟨HOP.out.2 hxs, HI3.out, HC2.out.trans (HO.out.2.mono HC2.out.size)⟩⟩
    · have hb : (x != (s : Int)) = true := by simp [hxs]
      go_wp2
      go_ret2
      exact .inr ⟨rfl, Lib.hid ⟨fun h => hxs (HOP.out.1 h), HC2.out⟩⟩
end Go.Proofs.YtopnkhalmembhaaDoor.Seal
