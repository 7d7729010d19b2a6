/-
  CONTRACTS: Name.Encode.
-/
import Derived.Test.YtcoknkhgilbpdaaRecName
set_option linter.unusedVariables false
set_option linter.unusedSimpArgs false
namespace Go.Proofs.Ytcoknkhgilbpdaa.Rec
open Go.ChangeShapes Go.WideShapes Go.ChangeAt Go.RowKit Go.Proofs.Ytcoknkhgilbpdaa.Mem Go.Proofs.Ytcoknkhgilbpdaa.Law Go.Proofs.Ytcoknkhgilbpdaa.Args Go.Proofs.Ytcoknkhgilbpdaa.Own Go.Proofs.Ytcoknkhgilbpdaa.PackMath
/-- The bytes of a string as numbers. -/
def sby (s : ByteArray) : List Int := s.data.toList.map fun b => (b.toNat : Int)
theorem sby_len (s : ByteArray) : (sby s).length = s.size := by
  unfold sby
  rw [List.length_map, Array.length_toList]
  rfl
theorem sby_range (s : ByteArray) : ∀ z ∈ sby s, 0 ≤ z ∧ z ≤ 255 := fun z hz => by
  obtain ⟨b, _, rfl⟩ := List.mem_map.1 hz
  have := b.toNat_lt
  omega
theorem sby_at (s : ByteArray) (k : Nat) (h : k < s.size) : (sby s).getD k 0 = ((s[k]'h).toNat : Int) := by
  rw [getD_at (by rw [sby_len]; exact h)]
  unfold sby
  rw [List.getElem_map]
  rfl
/-- The words of a name. -/
def nwd (s : ByteArray) : List Int := (s.size : Int) :: pks (sby s) 2
set_option maxRecDepth 100000 in
theorem nenc_not (s : ByteArray) (A : Option Addr) (L c : Nat) (w : World) (h : L ≠ 3 ∨ 16 < s.size) :
    Calls Try.prog 26 #[.agg #[], .string s, .slice A L c] w fun e w' => e = .returned (.bool false) ∧ Below w.heap.size w w' := by
  by_cases h3 : L = 3
  · subst h3
    have h16 : decide (16 < (s.size : Int)) = true := decide_eq_true (by omega)
    clear h
    go_enter Try.func26, Try.ntmps26
    go_wp2
    go_ret
    exact ⟨rfl, al1 _ _⟩
  · have hl3 : ¬ ((L : Int) = 3) := by omega
    clear h
    go_enter Try.func26, Try.ntmps26
    go_wp2
    go_ret
    exact ⟨rfl, al1 _ _⟩
theorem put_set (g : Nat → Value) (off : Nat) (l l' : List Int) (e : Nat) (x : Int) (he : e < l.length) (hl : l' = l.set e x) (o : Nat) : put g off (l'.map (Value.int .u64)) o = upd (put g off (l.map (Value.int .u64))) (off + e) (.int .u64 x) o := by
  subst hl
  unfold put upd
  simp only [List.length_map, List.length_set]
  by_cases h1 : o = off + e
  · subst h1
    rw [if_pos ⟨by omega, by omega⟩, if_pos rfl, Nat.add_sub_cancel_left]
    simp [List.getD, List.getElem?_map, he]
  · rw [if_neg h1]
    by_cases h2 : off ≤ o ∧ o < off + l.length
    · rw [if_pos h2, if_pos h2]
      simp [List.getD, List.getElem?_map, List.getElem?_set, show ¬ e = o - off by omega]
    · rw [if_neg h2, if_neg h2]
set_option maxRecDepth 100000 in
set_option maxHeartbeats 1000000 in
theorem nenc_ok (s : ByteArray) (b off c n : Nat) (T : TypeId) (g : Nat → Value) (w : World) (hs : s.size ≤ 16) (H : Hid (Blk w b T n g)) (hoff : off + 3 ≤ n) :
    Calls Try.prog 26 #[.agg #[], .string s, .slice (some ⟨b, off, none⟩) 3 c] w fun e w' => e = .returned (.bool true) ∧ Hid (Blk w' b T n (put g off ((nwd s).map (Value.int .u64))) ∧ Only (· = b) w w') := by
  obtain ⟨m, hm⟩ : ∃ m, s.size = m := ⟨_, rfl⟩
  have hm17 : decide (16 < (s.size : Int)) = false := decide_eq_false (by omega)
  have hm16 : decide (16 < (m : Int)) = false := decide_eq_false (by omega)
  have hb := H.out.lt
  have hclr : Hid (∀ ty w1, Blk w1 b T n g → (Builtin.clear_ #[24] ty #[.slice (some ⟨b, off, none⟩) 3 c]).run Try.prog w1 = .ok (.tuple #[]) (w1.setCells b off (List.replicate 3 (.int .u64 0)))) := Lib.hid (fun ty w1 hB => by
    have hz : ∀ w, (zeroValue 22).run Try.prog w = .ok (.int .u64 0) w := Try.zeroValue22
    exact Lib.run_clear_slice w1 24 22 ty (.int .u64 0) Try.underlying24 hz rfl rfl b off 3 c (by omega) (fun j hj => by rw [hB.cell (by omega)]; rfl) (fun j hj => hB.frozen _))
  have hcl2 : ∀ ty, (Builtin.clear_ #[24] ty #[.slice (some ⟨b, off, none⟩) 3 c]).run Try.prog (w.alloc (.cells #[] 44)) = .ok (.tuple #[]) ((w.alloc (.cells #[] 44)).setCells b off (List.replicate 3 (.int .u64 0))) := fun ty => hclr.out ty _ (H.out.alloc _)
  obtain ⟨W0, hW0⟩ : ∃ W0, (w.alloc (.cells #[] 44)).setCells b off [.int .u64 0, .int .u64 0, .int .u64 0] = W0 := ⟨_, rfl⟩
  have HB0 : Hid (Blk W0 b T n (put g off [.int .u64 0, .int .u64 0, .int .u64 0])) := Lib.hid (by rw [← hW0]; exact blk_setCells _ _ (H.out.alloc _))
  have HO0 : Hid (Only (· = b) w W0) := Lib.hid (by rw [← hW0]; exact Only.after (al1 w _) (only_setCells _ _ _))
  have hcl3 : ∀ ty, (Builtin.clear_ #[24] ty #[.slice (some ⟨b, off, none⟩) 3 c]).run Try.prog (w.alloc (.cells #[] 44)) = .ok (.tuple #[]) W0 := fun ty => by rw [hcl2 ty, ← hW0]; rfl
  clear hcl2 hW0
  have hc0 : W0.cell? ⟨b, off, none⟩ = some (.int .u64 0) := by
    rw [HB0.out.cell (by omega)]
    unfold put
    simp
  have hf0 := HB0.out.frozen off
  have HM := Lib.hid hm
  have HST0 : Hid (Blk (W0.setCell ⟨b, off, none⟩ (.int .u64 (m : Int))) b T n (put g off (((m : Int) :: pks ((sby s).take 0) 2).map (Value.int .u64)))) := Lib.hid ((HB0.out.set off (.int .u64 (m : Int))).ext (fun o ho => by
    rw [List.take_zero, pks_zero]
    unfold upd put
    simp only [List.length_map, List.length_cons, List.length_replicate, List.length_nil]
    by_cases h1 : o = off
    · subst h1
      rw [if_pos rfl, if_pos (by omega), Nat.sub_self]
      rfl
    · rw [if_neg h1]
      by_cases h2 : off ≤ o ∧ o < off + (2 + 1)
      · rw [if_pos h2, if_pos (by omega)]
        rcases (show o - off = 1 ∨ o - off = 2 by omega) with h3 | h3 <;> rw [h3] <;> rfl
      · rw [if_neg h2, if_neg (by omega)]))
  have HO1 : Hid (Only (· = b) w (W0.setCell ⟨b, off, none⟩ (.int .u64 (m : Int)))) := Lib.hid (HO0.out.set ⟨b, off, none⟩ _ (.inl rfl))
  go_enter Try.func26, Try.ntmps26
  go_wp2
  generalize W0.setCell ⟨b, off, none⟩ (.int .u64 (m : Int)) = W1 at *
  clear hc0 hf0 hcl3 HB0 HO0 hclr
  go_loopw [24] (fun i wr => ∃ k : Nat, k ≤ m ∧ i = .int .i64 k ∧ Hid (Blk wr b T n (put g off (((m : Int) :: pks ((sby s).take k) 2).map (Value.int .u64))) ∧ Only (· = b) w wr)) (fun i _ => m - (intOf i).toNat)
  case atStart => exact ⟨0, by omega, rfl, Lib.hid ⟨HST0.out, HO1.out⟩⟩
  case round =>
    obtain ⟨k, hk, rfl, HS⟩ := hrel
    by_cases hlt : k < m
    · have hkl : k < (sby s).length := by rw [sby_len]; have := HM.out; omega
      have hks : k < s.size := by have := HM.out; omega
      obtain ⟨bb, hbb, ebb⟩ : ∃ bb : Nat, bb < 256 ∧ (sby s).getD k 0 = (bb : Int) := ⟨(s[k]'hks).toNat, (s[k]'hks).toNat_lt, by rw [sby_at s k hks]⟩
      have hidx : ∀ w, (Instr.index 9 (.string s) (.int .i64 (k : Int))).run Try.prog w = .ok (.int .u8 (bb : Int)) w := fun w => by
        rw [run_index_string w 9 s .i64 (k : Int) Try.underlying9, dif_pos ⟨by omega, by omega⟩]
        have e := sby_at s k hks
        rw [ebb] at e
        congr 2
        rw [e]
        simp
      obtain ⟨d, hd⟩ : ∃ d, k / 8 = d := ⟨_, rfl⟩
      have hd2 : d < 2 := by omega
      have hsm := pkw_small (sby s) k hkl (sby_range s)
      have HST := pks_step (sby s) 2 k hkl (by omega)
      rw [ebb] at HST
      rw [hd] at hsm HST
      obtain ⟨W8, hW8⟩ := Int.eq_ofNat_of_zero_le hsm.1
      rw [hW8] at hsm HST
      obtain ⟨r, hrr⟩ : ∃ r, k % 8 = r := ⟨_, rfl⟩
      have hr8 : r < 8 := by omega
      rw [hrr] at hsm HST
      have hWl : W8 < 256 ^ r := by
        have h1 : ((W8 : Nat) : Int) < ((256 ^ r : Nat) : Int) := by rw [Int.natCast_pow]; exact hsm.2
        exact Int.ofNat_lt.1 h1
      obtain ⟨hs1, hs2, hs3⟩ := shl_byte bb r hbb hr8
      have hs4 := or_byte W8 bb r hWl hbb hr8
      have HV : (W8 : Int) + (bb : Int) * 256 ^ r = ((W8 + bb * 256 ^ r : Nat) : Int) := by rw [Int.natCast_add, Int.natCast_mul, Int.natCast_pow]; rfl
      rw [HV] at HST
      obtain ⟨s2, hs2'⟩ : ∃ s2, 8 * r = s2 := ⟨_, rfl⟩
      have hs64 : s2 ≤ 56 := by omega
      rw [hs2'] at hs1
      obtain ⟨y, hy⟩ : ∃ y, bb * 256 ^ r = y := ⟨_, rfl⟩
      rw [hy] at hs1 hs2 hs4 HST
      have hyl : y < 18446744073709551616 := by omega
      have hWl2 : W8 < 18446744073709551616 := by
        have : (256 : Nat) ^ r ≤ 256 ^ (r + 1) := Nat.pow_le_pow_right (by omega) (by omega)
        omega
      obtain ⟨x, hx⟩ : ∃ x, W8 + y = x := ⟨_, rfl⟩
      rw [hx] at hs4 HST
      obtain ⟨e, he⟩ : ∃ e, 1 + d = e := ⟨_, rfl⟩
      have he3 : e < 3 := by omega
      have HLW : Hid ((((m : Int) :: pks ((sby s).take k) 2).map (Value.int .u64)).length = 3) := Lib.hid (by simp [pks_len])
      have hcw : wr.cell? ⟨b, off + e, none⟩ = some (.int .u64 (W8 : Int)) := by
        rw [HS.out.1.cell (by omega), put_in _ _ _ (by rw [HLW.out]; exact he3), ← he]
        have h5 := pks_at ((sby s).take k) 2 d hd2
        rw [hW8] at h5
        simp only [List.getD, Nat.add_comm 1 d, List.map_cons, List.getElem?_cons_succ, List.getElem?_map] at h5 ⊢
        cases h6 : (pks ((sby s).take k) 2)[d]? with
        | none => rw [List.getElem?_eq_none_iff, pks_len] at h6; omega
        | some z => rw [h6] at h5; simp at h5; simp [h5]
      have hfw := HS.out.1.frozen (off + e)
      have HB8 : Hid (Blk (wr.drew.setCell ⟨b, off + e, none⟩ (.int .u64 (x : Int))) b T n (put g off (((m : Int) :: pks ((sby s).take (k + 1)) 2).map (Value.int .u64))) ∧ Only (· = b) w (wr.drew.setCell ⟨b, off + e, none⟩ (.int .u64 (x : Int)))) := Lib.hid ⟨(HS.out.1.drew.set (off + e) (.int .u64 (x : Int))).ext (fun o ho => by
          rw [← HST]
          exact put_set g off _ _ e x (by rw [List.length_cons, pks_len]; exact he3) (by rw [← he, Nat.add_comm]; rfl) o), HS.out.2.drew.set _ _ (.inl rfl)⟩
      have hdi : (k : Int) / 8 = (d : Int) := by omega
      have hdt : (k : Int).tdiv 8 = (d : Int) := by rw [Int.tdiv_eq_ediv_of_nonneg (by omega)]; exact hdi
      have hri : (k : Int) % 8 = (r : Int) := by omega
      have htm : (k : Int).tmod 8 = (r : Int) := by rw [Int.tmod_eq_emod_of_nonneg (by omega)]; exact hri
      have hei : 1 + (d : Int) = (e : Int) := by omega
      have hwei : IntKind.i64.wrap (1 + (d : Int)) = (e : Int) := by rw [hei]; exact IntWalk.i64_in _ ⟨by omega, by omega⟩
      have hwd : IntKind.i64.wrap (d : Int) = (d : Int) := IntWalk.i64_in _ ⟨by omega, by omega⟩
      have hwe : IntKind.i64.wrap (e : Int) = (e : Int) := IntWalk.i64_in _ ⟨by omega, by omega⟩
      have hwr : IntKind.i64.wrap (r : Int) = (r : Int) := IntWalk.i64_in _ ⟨by omega, by omega⟩
      have hws : IntKind.i64.wrap (8 * (r : Int)) = (s2 : Int) := by rw [IntKind.wrap_i64]; omega
      have hwb : IntKind.u64.wrap (bb : Int) = (bb : Int) := IntWalk.u64_in _ ⟨by omega, by omega⟩
      have hd0 : (0 : Int) ≤ (d : Int) := by omega
      have he0 : (0 : Int) ≤ (e : Int) := by omega
      have he3i : (e : Int) < 3 := by omega
      have hs0 : (0 : Int) ≤ (s2 : Int) := by omega
      have hc2 : wr.drew.cell? ⟨b, off + e, none⟩ = some (.int .u64 (W8 : Int)) := hcw
      have hf2 : wr.drew.frozen? ⟨b, off + e, none⟩ = false := hfw
      clear hd hrr hx hy hs2' he hsm hWl hs2 hs3 HV HST hkl hks ebb hW8 hcw hfw
      go_wp2
      go_still_tail 16, (by kernel_rfl)
      repeat still_step
      try refine wpStill_nil ?_
      change wpList _ _ _ _ _ wr.drew
      generalize wr.drew = wd at *
      clear hs1 hs4 hwd hwb hwei hws hidx
      go_wp2
      go_roundw
      case rel => exact ⟨k + 1, by omega, by go_num, HB8⟩
      case measure => simp [intOf]; omega
    · have hkm : k = m := by omega
      subst hkm
      have HT : Hid ((sby s).take k = sby s) := Lib.hid (List.take_of_length_le (by rw [sby_len]; have := HM.out; omega))
      go_wp2
      go_ret
      exact ⟨rfl, Lib.hid ⟨by
        have := HS.out.1
        rw [HT.out] at this
        unfold nwd
        rw [HM.out]
        exact this, HS.out.2⟩⟩
end Go.Proofs.Ytcoknkhgilbpdaa.Rec
