/-
  CONTRACTS: crc.Words, and the reference's Bytes and Words.
-/
import Derived.Test.YtopnkhalmembhaaDoorCrcOwn
set_option linter.unusedVariables false
set_option linter.unusedSimpArgs false
namespace Go.Proofs.YtopnkhalmembhaaDoor.Base
open Go.ChangeShapes Go.WideShapes Go.ChangeAt Go.RowKit Go.Proofs.YtopnkhalmembhaaDoor.CrcMath Go.Proofs.YtopnkhalmembhaaDoor.Law Go.Proofs.YtopnkhalmembhaaDoor.Args Go.Proofs.YtopnkhalmembhaaDoor.Own
/-! ### the bytes of words -/
def wb (w : Nat) : List Int := (List.range 8).map fun k => ((w / 256 ^ k % 256 : Nat) : Int)
def wbytes (ws : List Int) : List Int := ws.flatMap fun w => wb w.toNat
theorem wb_len (w : Nat) : (wb w).length = 8 := by simp [wb]
theorem wb_at (w k : Nat) (h : k < 8) : (wb w).getD k 0 = ((w / 256 ^ k % 256 : Nat) : Int) := by simp [wb, List.getD, h]
theorem wb_wf (w : Nat) : ∀ z ∈ wb w, 0 ≤ z ∧ z ≤ 255 := by
  intro z hz
  obtain ⟨k, _, rfl⟩ := List.mem_map.1 hz
  omega
theorem wbytes_wf (ws : List Int) : ∀ z ∈ wbytes ws, 0 ≤ z ∧ z ≤ 255 := by
  intro z hz
  obtain ⟨w, _, h⟩ := List.mem_flatMap.1 hz
  exact wb_wf _ z h
theorem wbytes_len (ws : List Int) : (wbytes ws).length = 8 * ws.length := by
  induction ws with
  | nil => rfl
  | cons w ws ih => unfold wbytes at *; rw [List.flatMap_cons, List.length_append, wb_len, ih, List.length_cons]; omega
theorem wbytes_snoc (ws : List Int) (k : Nat) (h : k < ws.length) : wbytes (ws.take (k + 1)) = wbytes (ws.take k) ++ wb (ws.getD k 0).toNat := by
  unfold wbytes
  rw [List.take_succ_eq_append_getElem h, List.flatMap_append, getD_at h]; simp
theorem lit8 {z : Int} (h : 0 ≤ z ∧ z ≤ 255) : (Lit.int .u8 z).wf = true := by
  simp [Lit.wf, IntKind.min, IntKind.max, IntKind.bits, IntKind.signed]; omega
theorem take_snoc8 (w t : Nat) (h : t < 8) : (wb w).take (t + 1) = (wb w).take t ++ [((w / 256 ^ t % 256 : Nat) : Int)] := by
  have hl : t < (wb w).length := by rw [wb_len]; exact h
  rw [List.take_succ_eq_append_getElem hl, ← getD_at hl, wb_at w t h]
theorem word_at {zs : List Int} (hw : ∀ z ∈ zs, (Lit.int .u64 z).wf = true) {k : Nat} (h : k < zs.length) : ∃ b : Nat, b < 18446744073709551616 ∧ zs.getD k 0 = (b : Int) := by
  have := wf_u64 (wf_at hw h)
  exact ⟨(zs.getD k 0).toNat, by omega, by omega⟩
theorem u8_low (v : Nat) : IntKind.u8.wrap (v : Int) = ((v % 256 : Nat) : Int) := by rw [IntKind.wrap_u8]; rfl
theorem words_any (A : Option Addr) (n cap B : Nat) (zs : List Int) (w : World) (hl : zs.length = n) (hn : n ≤ 9223372036854775807) (ht : Hid (Tab w)) (hr : Hid (IntsAt .u64 w B A zs)) (hw : Hid (∀ z ∈ zs, (Lit.int .u64 z).wf = true)) :
    Calls Tryd.prog 7 #[.slice A n cap] w fun e w' => e = .returned (.int .u32 ((crcN 0 (wbytes zs) : Nat) : Int)) ∧ ∃ n, w' = w.drewN n := by
  have HL := Lib.hid hl
  obtain ⟨F, hF⟩ : ∃ F : Nat, 4294967295 = F := ⟨_, rfl⟩
  have hFl : F < 4294967296 := by omega
  have e0 : crcN 0 (wbytes zs) = 4294967295 - upd F (wbytes zs) := by unfold crcN; rw [Nat.sub_zero, ← hF]
  have E0 := Lib.hid e0
  have HF : Hid ((4294967295 : Int) = (F : Int)) := Lib.hid (by omega)
  clear hl e0 hF
  go_enter Tryd.func7, Tryd.ntmps7
  go_wp2
  go_loopw [3, 8] (fun v i wr => ∃ k m : Nat, k ≤ n ∧ i = .int .i64 k ∧ v = .int .u32 ((upd F (wbytes (zs.take k)) : Nat) : Int) ∧ wr = w.drewN m) (fun _ i _ => n - (intOf i).toNat)
  case atStart => exact ⟨0, 0, by omega, rfl, val_int HF.out, rfl⟩
  case round =>
    obtain ⟨k, m, hk, rfl, rfl, rfl⟩ := hrel
    have hul := upd_lt (wbytes (zs.take k)) hFl (wbytes_wf _)
    by_cases hlt : k < n
    · have hkl : k < zs.length := by have := HL.out; omega
      obtain ⟨ad, rfl, _, hcell⟩ := hr.out k hkl
      obtain ⟨b, hb, eb⟩ := word_at hw.out hkl
      have HS : Hid (upd F (wbytes (zs.take (k + 1))) = upd (upd F (wbytes (zs.take k))) (wb b)) := Lib.hid (by rw [wbytes_snoc zs k hkl, upd_append, eb, Int.toNat_natCast])
      rw [eb] at hcell
      clear eb hkl
      obtain ⟨u, hu⟩ : ∃ u, upd F (wbytes (zs.take k)) = u := ⟨_, rfl⟩
      rw [hu] at hul HS
      rw [hu]
      clear hu
      go_wp2
      go_loopw [3, 5, 12] (fun v x i wr => ∃ t m : Nat, t ≤ 8 ∧ i = .int .i64 t ∧ x = .int .u64 ((b / 256 ^ t : Nat) : Int) ∧ v = .int .u32 ((upd u ((wb b).take t) : Nat) : Int) ∧ wr = w.drewN m) (fun _ _ i _ => 8 - (intOf i).toNat)
      case atStart => exact ⟨0, m, by omega, rfl, val_int (by rw [Nat.pow_zero, Nat.div_one]), rfl, rfl⟩
      case round =>
        obtain ⟨t, m2, htt, rfl, rfl, rfl, rfl⟩ := hrel
        by_cases ht8 : t < 8
        · have hvl : b / 256 ^ t < 18446744073709551616 := Nat.lt_of_le_of_lt (Nat.div_le_self _ _) hb
          have hxl := upd_lt ((wb b).take t) hul (fun z hz => wb_wf b z (List.mem_of_mem_take hz))
          have HV : Hid (upd u ((wb b).take (t + 1)) = sb (upd u ((wb b).take t)) (b / 256 ^ t % 256)) := Lib.hid (by rw [take_snoc8 b t ht8, upd_append]; unfold upd; simp only [List.foldl_cons, List.foldl_nil, Int.toNat_natCast])
          have HD : Hid (b / 256 ^ (t + 1) = b / 256 ^ t / 256) := Lib.hid (by rw [Nat.pow_succ, Nat.div_div_eq_div_mul])
          obtain ⟨x, hx⟩ : ∃ x, b / 256 ^ t = x := ⟨_, rfl⟩
          obtain ⟨y, hy⟩ : ∃ y, upd u ((wb b).take t) = y := ⟨_, rfl⟩
          rw [hx] at hvl HV HD
          rw [hy] at hxl HV
          rw [hx, hy]
          have h8 := u8_low x
          have hx8 : x % 256 < 256 := by omega
          obtain ⟨o, ho⟩ : ∃ o, x % 256 = o := ⟨_, rfl⟩
          rw [ho] at h8 hx8 HV
          clear hx hy ho
          go_wp2_with (go_at_call 17; refine (shiftByte_any _ _ _ hxl hx8 (Lib.hid (ht.out.drewN _))).mono ?_; rintro e w' ⟨rfl, m1, rfl⟩)
          go_roundw
          case rel => exact ⟨t + 1, _, by omega, by go_num, val_int (by rw [HD.out]; omega), val_int (by rw [HV.out]), by first | rfl | simp⟩
          case measure => simp [intOf]; omega
        · have h8 : t = 8 := by omega
          subst h8
          have HT : Hid ((wb b).take 8 = wb b) := Lib.hid (List.take_of_length_le (by rw [wb_len]; exact Nat.le_refl _))
          go_wp2
          go_roundw
          case rel => exact ⟨k + 1, _, by omega, by go_num, val_int (by rw [HS.out, HT.out]), by first | rfl | simp⟩
          case measure => simp [intOf]; omega
    · have hk' : zs.length ≤ k := by have := HL.out; omega
      have HT := Lib.hid (List.take_of_length_le hk')
      have hn2 := not32 _ hul
      clear hk'
      go_wp2
      go_ret
      exact ⟨ret_int (by rw [HT.out, E0.out]), m, rfl⟩
end Go.Proofs.YtopnkhalmembhaaDoor.Base
