/-
  CONTRACTS: crc.Words, and the reference's Bytes and Words.
-/
import Derived.Test.YtehojhgpgliemaaDoorCrcOwn
namespace Go.Proofs.YtehojhgpgliemaaDoor.Base
open Go.ChangeShapes Go.WideShapes Go.ChangeAt Go.RowKit Go.Proofs.YtehojhgpgliemaaDoor.CrcMath Go.Proofs.YtehojhgpgliemaaDoor.Law Go.Proofs.YtehojhgpgliemaaDoor.Args Go.Proofs.YtehojhgpgliemaaDoor.Own
/-! ### the bytes of words -/
def wb (w : Nat) : List Int := (List.range 8).map fun k => ((w / 256 ^ k % 256 : Nat) : Int)
def wbytes (ws : List Int) : List Int := ws.flatMap fun w => wb w.toNat
theorem wb_len (w : Nat) : (wb w).length = 8 := by simp [wb]
theorem wb_at (w k : Nat) (h : k < 8) : (wb w).getD k 0 = ((w / 256 ^ k % 256 : Nat) : Int) := by simp [wb, List.getD, h]
theorem wb_wf (w : Nat) : ∀ z ∈ wb w, 0 ≤ z ∧ z ≤ 255 := by
  intro z hz
  obtain ⟨k, _, rfl⟩ := List.mem_map.1 hz
  omega
theorem wbytes_wf (ws : List Int) : ∀ z ∈ wbytes ws, 0 ≤ z ∧ z ≤ 255 := by
  intro z hz
  obtain ⟨w, _, h⟩ := List.mem_flatMap.1 hz
  exact wb_wf _ z h
theorem wbytes_len (ws : List Int) : (wbytes ws).length = 8 * ws.length := by
  induction ws with
  | nil => rfl
  | cons w ws ih => unfold wbytes at *; rw [List.flatMap_cons, List.length_append, wb_len, ih, List.length_cons]; omega
theorem wbytes_snoc (ws : List Int) (k : Nat) (h : k < ws.length) : wbytes (ws.take (k + 1)) = wbytes (ws.take k) ++ wb (ws.getD k 0).toNat := by
  unfold wbytes
  rw [List.take_succ_eq_append_getElem h, List.flatMap_append, getD_at h]; simp
theorem lit8 {z : Int} (h : 0 ≤ z ∧ z ≤ 255) : (Lit.int .u8 z).wf = true := by
  simp [Lit.wf, IntKind.min, IntKind.max, IntKind.bits, IntKind.signed]; omega
theorem take_snoc8 (w t : Nat) (h : t < 8) : (wb w).take (t + 1) = (wb w).take t ++ [((w / 256 ^ t % 256 : Nat) : Int)] := by
  have hl : t < (wb w).length := by rw [wb_len]; exact h
  rw [List.take_succ_eq_append_getElem hl, ← getD_at hl, wb_at w t h]
theorem word_at {zs : List Int} (hw : ∀ z ∈ zs, (Lit.int .u64 z).wf = true) {k : Nat} (h : k < zs.length) : ∃ b : Nat, b < 18446744073709551616 ∧ zs.getD k 0 = (b : Int) := by
  have := wf_u64 (wf_at hw h)
  exact ⟨(zs.getD k 0).toNat, by omega, by omega⟩
theorem u8_low (v : Nat) : IntKind.u8.wrap (v : Int) = ((v % 256 : Nat) : Int) := by rw [IntKind.wrap_u8]; rfl
theorem words_any (A : Option Addr) (n cap B : Nat) (zs : List Int) (w : World) (hl : zs.length = n) (hn : n ≤ 9223372036854775807) (ht : Hid (Tab w)) (hr : Hid (IntsAt .u64 w B A zs)) (hw : Hid (∀ z ∈ zs, (Lit.int .u64 z).wf = true)) :
    Calls Tryd.prog 20 #[.slice A n cap] w fun e w' => e = .returned (.int .u32 ((crcN 0 (wbytes zs) : Nat) : Int)) ∧ ∃ n, w' = w.drewN n := by
  have HL := Lib.hid hl
  obtain ⟨F, hF⟩ : ∃ F : Nat, 4294967295 = F := ⟨_, rfl⟩
  have hFl : F < 4294967296 := by omega
  have e0 : crcN 0 (wbytes zs) = 4294967295 - upd F (wbytes zs) := by unfold crcN; rw [Nat.sub_zero, ← hF]
  have E0 := Lib.hid e0
  have HF : Hid ((4294967295 : Int) = (F : Int)) := Lib.hid (by omega)
  clear hl e0 hF
  go_enter Tryd.func20, Tryd.ntmps20
  go_wp2
  go_loopw [3, 8] (fun v i wr => ∃ k m : Nat, k ≤ n ∧ i = .int .i64 k ∧ v = .int .u32 ((upd F (wbytes (zs.take k)) : Nat) : Int) ∧ wr = w.drewN m) (fun _ i _ => n - (intOf i).toNat)
  case atStart => exact ⟨0, 0, by omega, rfl, val_int HF.out, rfl⟩
  case round =>
    obtain ⟨k, m, hk, rfl, rfl, rfl⟩ := hrel
    have hul := upd_lt (wbytes (zs.take k)) hFl (wbytes_wf _)
    by_cases hlt : k < n
    · have hkl : k < zs.length := by have := HL.out; omega
      obtain ⟨ad, rfl, _, hcell⟩ := hr.out k hkl
      obtain ⟨b, hb, eb⟩ := word_at hw.out hkl
      have HS : Hid (upd F (wbytes (zs.take (k + 1))) = upd (upd F (wbytes (zs.take k))) (wb b)) := Lib.hid (by rw [wbytes_snoc zs k hkl, upd_append, eb, Int.toNat_natCast])
      rw [eb] at hcell
      clear eb hkl
      obtain ⟨u, hu⟩ : ∃ u, upd F (wbytes (zs.take k)) = u := ⟨_, rfl⟩
      rw [hu] at hul HS
      rw [hu]
      clear hu
      go_wp2
      go_loopw [3, 5, 12] (fun v x i wr => ∃ t m : Nat, t ≤ 8 ∧ i = .int .i64 t ∧ x = .int .u64 ((b / 256 ^ t : Nat) : Int) ∧ v = .int .u32 ((upd u ((wb b).take t) : Nat) : Int) ∧ wr = w.drewN m) (fun _ _ i _ => 8 - (intOf i).toNat)
      case atStart => exact ⟨0, m, by omega, rfl, val_int (by rw [Nat.pow_zero, Nat.div_one]), rfl, rfl⟩
      case round =>
        obtain ⟨t, m2, htt, rfl, rfl, rfl, rfl⟩ := hrel
        by_cases ht8 : t < 8
        · have hvl : b / 256 ^ t < 18446744073709551616 := Nat.lt_of_le_of_lt (Nat.div_le_self _ _) hb
          have hxl := upd_lt ((wb b).take t) hul (fun z hz => wb_wf b z (List.mem_of_mem_take hz))
          have HV : Hid (upd u ((wb b).take (t + 1)) = sb (upd u ((wb b).take t)) (b / 256 ^ t % 256)) := Lib.hid (by rw [take_snoc8 b t ht8, upd_append]; unfold upd; simp only [List.foldl_cons, List.foldl_nil, Int.toNat_natCast])
          have HD : Hid (b / 256 ^ (t + 1) = b / 256 ^ t / 256) := Lib.hid (by rw [Nat.pow_succ, Nat.div_div_eq_div_mul])
          obtain ⟨x, hx⟩ : ∃ x, b / 256 ^ t = x := ⟨_, rfl⟩
          obtain ⟨y, hy⟩ : ∃ y, upd u ((wb b).take t) = y := ⟨_, rfl⟩
          rw [hx] at hvl HV HD
          rw [hy] at hxl HV
          rw [hx, hy]
          have h8 := u8_low x
          have hx8 : x % 256 < 256 := by omega
          obtain ⟨o, ho⟩ : ∃ o, x % 256 = o := ⟨_, rfl⟩
          rw [ho] at h8 hx8 HV
          clear hx hy ho
          go_wp2_with (go_at_call 28; refine (shiftByte_any _ _ _ hxl hx8 (Lib.hid (ht.out.drewN _))).mono ?_; rintro e w' ⟨rfl, m1, rfl⟩)
          go_roundw
          case rel => exact ⟨t + 1, _, by omega, by go_num, val_int (by rw [HD.out]; omega), val_int (by rw [HV.out]), by first | rfl | simp⟩
          case measure => simp [intOf]; omega
        · have h8 : t = 8 := by omega
          subst h8
          have HT : Hid ((wb b).take 8 = wb b) := Lib.hid (List.take_of_length_le (by rw [wb_len]; exact Nat.le_refl _))
          go_wp2
          go_roundw
          case rel => exact ⟨k + 1, _, by omega, by go_num, val_int (by rw [HS.out, HT.out]), by first | rfl | simp⟩
          case measure => simp [intOf]; omega
    · have hk' : zs.length ≤ k := by have := HL.out; omega
      have HT := Lib.hid (List.take_of_length_le hk')
      have hn2 := not32 _ hul
      clear hk'
      go_wp2
      go_ret
      exact ⟨ret_int (by rw [HT.out, E0.out]), m, rfl⟩
theorem bytes_any (A : Option Addr) (n cap B : Nat) (zs : List Int) (w : World) (hl : zs.length = n) (hn : n ≤ 1000000) (hr : Hid (IntsAt .u64 w B A zs)) (hB : B ≤ w.heap.size) (hw : Hid (∀ z ∈ zs, (Lit.int .u64 z).wf = true)) :
    Calls Tryd.prog 22 #[.slice A n cap] w fun e w' => ∃ v, e = .returned v ∧ Hid (OwnInts .u8 5 w' w.heap.size v (wbytes zs) ∧ Below w.heap.size w w') := by
  have HL := Lib.hid hl
  obtain ⟨i8, hi, hz0, hz1, hz2⟩ := info_parts info8
  have HI := Lib.hid hi
  have HZ0 := Lib.hid hz0
  have HZ1 := Lib.hid hz1
  have HZ2 := Lib.hid hz2
  have HO0 : Hid (OwnInts .u8 5 (w.alloc (.cells #[] 5)) w.heap.size (.slice (some ⟨w.heap.size, 0, none⟩) 0 0) (wbytes (zs.take 0)) ∧ Below w.heap.size w (w.alloc (.cells #[] 5))) := Lib.hid ⟨OwnInts.empty .u8 5 w (Nat.le_refl _), (Below.refl _ _).alloc (Nat.le_refl _) _⟩
  clear hl hi hz0 hz1 hz2
  go_enter Tryd.func22, Tryd.ntmps22
  go_wp2
  go_loopw [3, 10] (fun v i wr => ∃ k : Nat, k ≤ n ∧ i = .int .i64 k ∧ Hid (OwnInts .u8 5 wr w.heap.size v (wbytes (zs.take k)) ∧ Below w.heap.size w wr)) (fun _ i _ => n - (intOf i).toNat)
  case atStart => exact ⟨0, by omega, rfl, HO0⟩
  case round =>
    obtain ⟨k, hk, rfl, HO⟩ := hrel
    by_cases hlt : k < n
    · have hkl : k < zs.length := by have := HL.out; omega
      obtain ⟨ad, rfl, hadb, hcell0⟩ := hr.out k hkl
      obtain ⟨b, hb, eb⟩ := word_at hw.out hkl
      have HS : Hid (wbytes (zs.take (k + 1)) = wbytes (zs.take k) ++ wb b) := Lib.hid (by rw [wbytes_snoc zs k hkl, eb, Int.toNat_natCast])
      rw [eb] at hcell0
      have hcell := (HO.out.2.cell (p := ad.add k) (by rw [add_block]; omega)).trans hcell0
      have HLen : Hid ((wbytes (zs.take k)).length = 8 * k) := Lib.hid (by rw [wbytes_len, List.length_take]; omega)
      have HO1 : Hid (OwnInts .u8 5 wr w.heap.size u3 (wbytes (zs.take k) ++ (wb b).take 0) ∧ Below w.heap.size w wr) := Lib.hid (by simpa using HO.out)
      clear eb hkl hcell0
      go_wp2
      obtain ⟨wo, hwo⟩ : ∃ wo, wo = wr := ⟨_, rfl⟩
      obtain ⟨out, hout⟩ : ∃ out, out = u3 := ⟨_, rfl⟩
      subst hwo hout
      go_loopw [3, 5, 6] (fun v x i wq => ∃ t : Nat, t ≤ 8 ∧ i = .int .i64 t ∧ x = .int .u64 ((b / 256 ^ t : Nat) : Int) ∧ Hid (OwnInts .u8 5 wq w.heap.size v (wbytes (zs.take k) ++ (wb b).take t) ∧ Below w.heap.size w wq)) (fun _ _ i _ => 8 - (intOf i).toNat)
      case atStart => exact ⟨0, by omega, rfl, val_int (by rw [Nat.pow_zero, Nat.div_one]), HO1⟩
      case round =>
        obtain ⟨t, htt, rfl, rfl, HQ⟩ := hrel
        by_cases ht8 : t < 8
        · have hvl : b / 256 ^ t < 18446744073709551616 := Nat.lt_of_le_of_lt (Nat.div_le_self _ _) hb
          have HD : Hid (b / 256 ^ (t + 1) = b / 256 ^ t / 256) := Lib.hid (by rw [Nat.pow_succ, Nat.div_div_eq_div_mul])
          have HV : Hid ((wb b).take (t + 1) = (wb b).take t ++ [((b / 256 ^ t % 256 : Nat) : Int)]) := Lib.hid (take_snoc8 b t ht8)
          have HTL : Hid (((wb b).take t).length = t) := Lib.hid (by rw [List.length_take, wb_len]; omega)
          obtain ⟨x, hx⟩ : ∃ x, b / 256 ^ t = x := ⟨_, rfl⟩
          rw [hx] at hvl HV HD
          rw [hx]
          have h8 := u8_low x
          obtain ⟨o, ho⟩ : ∃ o, x % 256 = o := ⟨_, rfl⟩
          rw [ho] at h8 HV
          clear hx ho
          go_wp2_with (at_builtin; (refine wpList_app (by simp [Region.wanted]) (.tmp 18) (.tmp 21) 22 rfl (v := u3) (B := wr.heap.size + 1) (c := 1) (A := some ⟨wr.heap.size, 0, none⟩) (zs := [(o : Int)]) Tryd.underlying22 HI.out HZ0.out HZ1.out HZ2.out rfl rfl (HQ.out.1.alloc _) rfl (IntsAt.new .u8 wr 5 (0, 0) [(o : Int)]) rfl (by rw [List.length_append, HLen.out, HTL.out]; simp [maxLen]; omega) (by rw [List.length_append, HLen.out, HTL.out]; omega) (Nat.le_trans HQ.out.2.size (by simp)) ?_); intro v3 w3 ho3 hg3 ha3)
          have HB3 : Hid (Below w.heap.size w w3) := Lib.hid ((HQ.out.2.alloc HQ.out.2.size _).trans ((HQ.out.1.alloc _).grownBelow hg3 (Nat.le_trans HQ.out.2.size (by simp))))
          have HO3 : Hid (OwnInts .u8 5 w3 w.heap.size v3 (wbytes (zs.take k) ++ (wb b).take (t + 1))) := Lib.hid (by rw [HV.out, ← List.append_assoc]; exact ho3)
          clear ho3 hg3 ha3
          go_roundw
          case rel => exact ⟨t + 1, by omega, by go_num, val_int (by rw [HD.out]; omega), Lib.hid ⟨HO3.out, HB3.out⟩⟩
          case measure => simp [intOf]; omega
        · have h8 : t = 8 := by omega
          subst h8
          have HT : Hid ((wb b).take 8 = wb b) := Lib.hid (List.take_of_length_le (by rw [wb_len]; exact Nat.le_refl _))
          go_wp2
          go_roundw
          case rel => exact ⟨k + 1, by omega, by go_num, Lib.hid (by have := HQ.out; rw [HT.out, ← HS.out] at this; exact this)⟩
          case measure => simp [intOf]; omega
    · have hk' : zs.length ≤ k := by have := HL.out; omega
      have HT := Lib.hid (List.take_of_length_le hk')
      clear hk'
      go_wp2
      go_ret
      exact ⟨_, rfl, Lib.hid (by have := HO.out; rw [HT.out] at this; exact this)⟩
theorem rwords_any (A : Option Addr) (n cap B : Nat) (zs : List Int) (w : World) (hl : zs.length = n) (hn : n ≤ 1000000) (hr : Hid (IntsAt .u64 w B A zs)) (hB : B ≤ w.heap.size) (hw : Hid (∀ z ∈ zs, (Lit.int .u64 z).wf = true)) :
    Calls Tryd.prog 21 #[.slice A n cap] w fun e w' => e = .returned (.int .u32 ((crcN 0 (wbytes zs) : Nat) : Int)) ∧ Hid (Below w.heap.size w w') := by
  have HBy := Lib.hid (bytes_any A n cap B zs w hl hn hr hB hw)
  have HWF : Hid (∀ z ∈ wbytes zs, (Lit.int .u8 z).wf = true) := Lib.hid (fun z hz => lit8 (wbytes_wf zs z hz))
  have HLn : Hid ((wbytes zs).length = 8 * n) := Lib.hid (by rw [wbytes_len, hl])
  clear hl
  go_enter Tryd.func21, Tryd.ntmps21
  go_wp2_with (go_at_call 22; refine (HBy.out).mono ?_; rintro e w1 ⟨v, rfl, H1⟩)
  obtain ⟨A1, c1, rfl, hn1, hc1, _, hi1⟩ := H1.out.1.form
  have HS := Lib.hid (rsum_any A1 (8 * n) c1 _ (wbytes zs) w1 HLn.out (by omega) (Lib.hid hi1) HWF)
  rw [HLn.out]
  clear hn1 hc1 hi1
  go_wp2_with (go_at_call 16; refine (HS.out).mono ?_; rintro e w' ⟨rfl, k3, rfl⟩)
  go_ret
  exact ⟨rfl, Lib.hid (below_draws H1.out.2 _)⟩
end Go.Proofs.YtehojhgpgliemaaDoor.Base
