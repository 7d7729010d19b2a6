/-
  CONTRACTS: the reference's Name.
-/
import Derived.Test.YtcoknkhgilbpdaaRecNenc
import Derived.Test.YtcoknkhgilbpdaaRecAwake
set_option linter.unusedVariables false
set_option linter.unusedSimpArgs false
namespace Go.Proofs.Ytcoknkhgilbpdaa.Rec
open Go.ChangeShapes Go.WideShapes Go.ChangeAt Go.RowKit Go.Proofs.Ytcoknkhgilbpdaa.Mem Go.Proofs.Ytcoknkhgilbpdaa.Law Go.Proofs.Ytcoknkhgilbpdaa.Args Go.Proofs.Ytcoknkhgilbpdaa.Own Go.Proofs.Ytcoknkhgilbpdaa.PackMath
/-- Word j while the bytes from k on are laid. -/
def rn (zs : List Int) (k j : Nat) : Int := le ((zs.drop (max k (8 * j))).take (8 * (j + 1) - max k (8 * j)))
theorem rn_zero (zs : List Int) (j : Nat) : rn zs 0 j = pkw zs j := by
  unfold rn pkw
  rw [Nat.max_eq_right (Nat.zero_le _), show 8 * (j + 1) - 8 * j = 8 by omega]
theorem rn_full (zs : List Int) (k j : Nat) (h : zs.length ≤ k) : rn zs k j = 0 := by
  unfold rn
  rw [List.drop_eq_nil_of_le (by omega)]
  simp [le]
theorem rn_step (zs : List Int) (k : Nat) (h : k < zs.length) : rn zs k (k / 8) = zs.getD k 0 + 256 * rn zs (k + 1) (k / 8) := by
  unfold rn
  obtain ⟨d, hd⟩ : ∃ d, k / 8 = d := ⟨_, rfl⟩
  rw [hd, Nat.max_eq_left (show 8 * d ≤ k by omega), Nat.max_eq_left (show 8 * d ≤ k + 1 by omega)]
  obtain ⟨m, hm⟩ : ∃ m, 8 * (d + 1) - k = m + 1 := ⟨8 * (d + 1) - k - 1, by omega⟩
  rw [hm, show 8 * (d + 1) - (k + 1) = m by omega, List.drop_eq_getElem_cons h, List.take_succ_cons, le, getD_at h]
theorem rn_other (zs : List Int) (k j : Nat) (h : j ≠ k / 8) : rn zs k j = rn zs (k + 1) j := by
  unfold rn
  rcases Nat.lt_or_ge k (8 * j) with h1 | h1
  · rw [Nat.max_eq_right (show k ≤ 8 * j by omega), Nat.max_eq_right (show k + 1 ≤ 8 * j by omega)]
  · have h2 : 8 * (j + 1) ≤ k := by omega
    rw [show 8 * (j + 1) - max k (8 * j) = 0 by omega, show 8 * (j + 1) - max (k + 1) (8 * j) = 0 by omega, List.take_zero, List.take_zero]
theorem rn_range (zs : List Int) (k : Nat) (hz : ∀ b ∈ zs, 0 ≤ b ∧ b ≤ 255) : 0 ≤ rn zs (k + 1) (k / 8) ∧ rn zs (k + 1) (k / 8) < 256 ^ 7 := by
  unfold rn
  obtain ⟨h1, h2⟩ := le_range ((zs.drop (max (k + 1) (8 * (k / 8)))).take (8 * (k / 8 + 1) - max (k + 1) (8 * (k / 8)))) (fun b hb => hz b (List.mem_of_mem_drop (List.mem_of_mem_take hb)))
  refine ⟨h1, Int.lt_of_lt_of_le h2 ?_⟩
  have h3 : ((zs.drop (max (k + 1) (8 * (k / 8)))).take (8 * (k / 8 + 1) - max (k + 1) (8 * (k / 8)))).length ≤ 7 := by
    rw [List.length_take]
    omega
  have h4 : (256 : Nat) ^ ((zs.drop (max (k + 1) (8 * (k / 8)))).take (8 * (k / 8 + 1) - max (k + 1) (8 * (k / 8)))).length ≤ 256 ^ 7 := Nat.pow_le_pow_right (by omega) h3
  have h5 := Int.ofNat_le.2 h4
  rw [Int.natCast_pow, Int.natCast_pow] at h5
  exact h5
def rnG (m : Int) (zs : List Int) (k : Nat) : Nat → Value := fun o => if o = 0 then .int .u64 m else .int .u64 (rn zs k (o - 1))
set_option maxRecDepth 100000 in
theorem rname_long (s : ByteArray) (w : World) (hs : 16 < s.size) : Calls Try.prog 24 #[.string s] w fun e w' => e = .returned (.tuple #[.slice none 0 0, .bool false]) ∧ Below w.heap.size w w' := by
  have hd : decide (16 < (s.size : Int)) = true := decide_eq_true (by omega)
  go_enter Try.func24, Try.ntmps24
  go_wp2
  go_ret2
  exact ⟨rfl, al1 _ _⟩
set_option maxRecDepth 100000 in
set_option maxHeartbeats 1000000 in
theorem rname_ok (s : ByteArray) (w : World) (hs : s.size ≤ 16) : Calls Try.prog 24 #[.string s] w fun e w' => ∃ g, e = .returned (.tuple #[.slice (some ⟨g, 0, none⟩) 3 3, .bool true]) ∧ Hid (w.heap.size ≤ g ∧ IntsAt .u64 w' (g + 1) (some ⟨g, 0, none⟩) (nwd s) ∧ g < w'.heap.size ∧ Below w.heap.size w w') := by
  obtain ⟨m, hm⟩ : ∃ m, s.size = m := ⟨_, rfl⟩
  have HM := Lib.hid hm
  have hd : decide (16 < (s.size : Int)) = false := decide_eq_false (by omega)
  have hd2 : decide (16 < (m : Int)) = false := decide_eq_false (by omega)
  have hm16 : m ≤ 16 := by omega
  have HW1 : Hid (Blk (w.alloc (.cells #[.int .u64 (m : Int), .int .u64 0, .int .u64 0] 22)) w.heap.size 22 3 (rnG m (sby s) m)) := Lib.hid (Blk.newOf w #[.int .u64 (m : Int), .int .u64 0, .int .u64 0] 22 rfl (fun o ho => by
    unfold rnG
    rcases (show o = 0 ∨ o = 1 ∨ o = 2 by omega) with rfl | rfl | rfl
    · rfl
    · rw [if_neg (by omega), rn_full _ _ _ (by rw [sby_len]; omega)]; rfl
    · rw [if_neg (by omega), rn_full _ _ _ (by rw [sby_len]; omega)]; rfl))
  have HB1 : Hid (Below w.heap.size w (w.alloc (.cells #[.int .u64 (m : Int), .int .u64 0, .int .u64 0] 22))) := Lib.hid (al1 w _)
  go_enter Try.func24, Try.ntmps24
  go_wp2
  generalize w.alloc (.cells #[.int .u64 (m : Int), .int .u64 0, .int .u64 0] 22) = W1 at *
  go_loopw [5] (fun i wr => ∃ k : Nat, k ≤ m ∧ i = .int .i64 ((k : Int) - 1) ∧ Hid (Blk wr w.heap.size 22 3 (rnG m (sby s) k) ∧ Below w.heap.size w wr)) (fun i _ => (intOf i + 1).toNat)
  case atStart => exact ⟨m, by omega, rfl, Lib.hid ⟨HW1.out, HB1.out⟩⟩
  case round =>
    obtain ⟨k0, hk, rfl, HS⟩ := hrel
    rcases Nat.eq_zero_or_pos k0 with h0 | h0
    · subst h0
      have HR : Hid (IntsAt .u64 wr (w.heap.size + 1) (some ⟨w.heap.size, 0, none⟩) (nwd s)) := Lib.hid (blk_ints HS.out.1 (fun i hi => by
        rw [show (nwd s).length = 3 by simp [nwd, pks_len]] at hi
        refine ⟨by omega, ?_⟩
        unfold rnG nwd
        rw [HM.out]
        rcases (show i = 0 ∨ i = 1 ∨ i = 2 by omega) with rfl | rfl | rfl
        · rfl
        · simp only [rn_zero]; rfl
        · simp only [rn_zero]; rfl))
      go_wp2
      go_ret2
      exact ⟨_, rfl, Lib.hid ⟨Nat.le_refl _, HR.out, HS.out.1.lt, HS.out.2⟩⟩
    · obtain ⟨k, rfl⟩ : ∃ k, k0 = k + 1 := ⟨k0 - 1, by omega⟩
      have hki : ((k + 1 : Nat) : Int) - 1 = (k : Int) := by omega
      rw [hki]
      have HKI := Lib.hid hki
      clear hki h0
      have hkl : k < (sby s).length := by rw [sby_len]; have := HM.out; omega
      have hks : k < s.size := by have := HM.out; omega
      obtain ⟨bb, hbb, ebb⟩ : ∃ bb : Nat, bb < 256 ∧ (sby s).getD k 0 = (bb : Int) := ⟨(s[k]'hks).toNat, (s[k]'hks).toNat_lt, by rw [sby_at s k hks]⟩
      have hidx : ∀ w, (Instr.index 9 (.string s) (.int .i64 (k : Int))).run Try.prog w = .ok (.int .u8 (bb : Int)) w := fun w => by
        rw [run_index_string w 9 s .i64 (k : Int) Try.underlying9, dif_pos ⟨by omega, by omega⟩]
        have e := sby_at s k hks
        rw [ebb] at e
        congr 2
        rw [e]
        simp
      obtain ⟨d, hd⟩ : ∃ d, k / 8 = d := ⟨_, rfl⟩
      have hd2' : d < 2 := by omega
      have hrg := rn_range (sby s) k (sby_range s)
      have hst := rn_step (sby s) k hkl
      rw [ebb, hd] at hst
      rw [hd] at hrg
      obtain ⟨W8, hW8⟩ := Int.eq_ofNat_of_zero_le hrg.1
      rw [hW8] at hrg hst
      have hW7 : W8 < 72057594037927936 := by
        have := hrg.2
        have e : ((256 : Int) ^ 7) = 72057594037927936 := by decide
        rw [e] at this
        omega
      obtain ⟨y, hy⟩ : ∃ y, 256 * W8 = y := ⟨_, rfl⟩
      have hmul : IntKind.u64.wrap (256 * (W8 : Int)) = (y : Int) := by rw [IntKind.wrap_u64]; omega
      obtain ⟨x, hx⟩ : ∃ x, y + bb = x := ⟨_, rfl⟩
      have hadd : IntKind.u64.wrap ((y : Int) + (bb : Int)) = (x : Int) := by rw [IntKind.wrap_u64]; omega
      have hxe : rn (sby s) k d = (x : Int) := by rw [hst]; omega
      obtain ⟨e, he⟩ : ∃ e, 1 + d = e := ⟨_, rfl⟩
      have he3 : e < 3 := by omega
      have hcw : wr.cell? ⟨w.heap.size, e, none⟩ = some (.int .u64 (W8 : Int)) := by
        rw [HS.out.1.cell he3]
        unfold rnG
        rw [if_neg (by omega), show e - 1 = d by omega, hW8]
      have hfw := HS.out.1.frozen e
      have HB8 : Hid (Blk (wr.drew.setCell ⟨w.heap.size, e, none⟩ (.int .u64 (x : Int))) w.heap.size 22 3 (rnG m (sby s) k) ∧ Below w.heap.size w (wr.drew.setCell ⟨w.heap.size, e, none⟩ (.int .u64 (x : Int)))) := Lib.hid ⟨(HS.out.1.drew.set e (.int .u64 (x : Int))).ext (fun o ho => by
          unfold upd rnG
          by_cases h1 : o = e
          · subst h1
            rw [if_pos rfl, if_neg (by omega), show o - 1 = d by omega, hxe]
          · rw [if_neg h1]
            by_cases h2 : o = 0
            · rw [if_pos h2, if_pos h2]
            · rw [if_neg h2, if_neg h2, rn_other (sby s) k (o - 1) (by omega)]), HS.out.2.drew.setCell (Nat.le_refl _) _⟩
      have hdi : (k : Int) / 8 = (d : Int) := by omega
      have hdt : (k : Int).tdiv 8 = (d : Int) := by rw [Int.tdiv_eq_ediv_of_nonneg (by omega)]; exact hdi
      have hei : 1 + (d : Int) = (e : Int) := by omega
      have hwei : IntKind.i64.wrap (1 + (d : Int)) = (e : Int) := by rw [hei]; exact IntWalk.i64_in _ ⟨by omega, by omega⟩
      have hwd : IntKind.i64.wrap (d : Int) = (d : Int) := IntWalk.i64_in _ ⟨by omega, by omega⟩
      have hwe : IntKind.i64.wrap (e : Int) = (e : Int) := IntWalk.i64_in _ ⟨by omega, by omega⟩
      have hwb : IntKind.u64.wrap (bb : Int) = (bb : Int) := IntWalk.u64_in _ ⟨by omega, by omega⟩
      have hd0 : (0 : Int) ≤ (d : Int) := by omega
      have he0 : (0 : Int) ≤ (e : Int) := by omega
      have he3i : (e : Int) < 3 := by omega
      have hc2 : wr.drew.cell? ⟨w.heap.size, e, none⟩ = some (.int .u64 (W8 : Int)) := hcw
      have hf2 : wr.drew.frozen? ⟨w.heap.size, e, none⟩ = false := hfw
      have hk0 : ¬ (k : Int) < 0 := by omega
      have hkb : k ≤ 16 := by omega
      clear hd hW8 hrg hst hy hx hxe he hkl hks ebb hcw hfw hW7
      go_wp2
      go_still_tail 17, (by kernel_rfl)
      repeat still_step
      try refine wpStill_nil ?_
      change wpList _ _ _ _ _ wr.drew
      generalize wr.drew = wd at *
      clear hmul hadd hwd hwb hwei hidx
      go_wp2
      go_roundw
      case rel => exact ⟨k, by omega, by go_num, HB8⟩
      case measure => first | (simp [intOf]; done) | (simp [intOf]; omega)
end Go.Proofs.Ytcoknkhgilbpdaa.Rec
