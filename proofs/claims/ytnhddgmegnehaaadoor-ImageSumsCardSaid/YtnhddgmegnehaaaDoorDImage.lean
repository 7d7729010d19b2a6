/-
  DEVICE: Image, Persisted.
-/
import Derived.Test.YtnhddgmegnehaaaDoorDCurrent
set_option linter.unusedVariables false
set_option linter.unusedSimpArgs false
namespace Go.Proofs.YtnhddgmegnehaaaDoor.Dev
open Go.ChangeShapes Go.WideShapes Go.ChangeAt Go.RowKit Go.Proofs.YtnhddgmegnehaaaDoor.Mem Go.Proofs.YtnhddgmegnehaaaDoor.Args Go.Proofs.YtnhddgmegnehaaaDoor.Own
/-- How many stores of line i the choice selects. -/
def pickOf (S : St) (ch : List Int) (i : Nat) : Nat := if 0 < (S.hist i).length ∧ 0 < ch.length then (ch.getD ((dirtyTo S i).length % ch.length) 0).toNat % ((S.hist i).length + 1) else 0
theorem pickOf_le (S : St) (ch : List Int) (i : Nat) : pickOf S ch i ≤ (S.hist i).length := by
  unfold pickOf
  split
  · have := Nat.mod_lt (ch.getD ((dirtyTo S i).length % ch.length) 0).toNat (show 0 < (S.hist i).length + 1 by omega)
    omega
  · omega
def count (S : St) (ch : List Int) (i : Nat) : Nat := if 0 < ch.length then (dirtyTo S i).length else 0
set_option maxRecDepth 100000 in
set_option maxHeartbeats 1000000 in
theorem image_any (w : World) (base M : Nat) (A : Adr) (S : St) (C : Option Addr) (m cap B : Nat) (ch : List Int) (h : IsDev w base A S) (hS : S.Ok M) (hM : M ≤ 1000000) (hl : ch.length = m) (hmm : m ≤ 140737488351232) (hr : IntsAt .u8 w B C ch) (hB : B ≤ w.heap.size) (hw : ∀ z ∈ ch, 0 ≤ z ∧ z ≤ 255) :
    Calls Tryd.prog 43 #[.pointer (some ⟨A.d, 0, none⟩), .slice C m cap] w fun e w' => ∃ v', e = .returned v' ∧ Hid (OwnInts .u8 5 w' w.heap.size v' (content S (pickOf S ch) S.n) ∧ Below w.heap.size w w') := by
  obtain ⟨i0, hi, hz0, hz1, hz2⟩ := info_parts info8
  have HI := Lib.hid hi
  have HZ0 := Lib.hid hz0
  have HZ1 := Lib.hid hz1
  have HZ2 := Lib.hid hz2
  have HD := Lib.hid h
  have HSS := Lib.hid hS
  have HSz := Lib.hid (size_any w A S h.db hS.n1)
  obtain ⟨n, hn⟩ : ∃ n, S.n = n := ⟨_, rfl⟩
  have hn1 := hS.n1
  rw [hn] at hn1 HSz ⊢
  have HN := Lib.hid hn
  have HLE := Lib.hid hl
  have HRR := Lib.hid hr
  have HWW := Lib.hid hw
  clear hi hz0 hz1 hz2 h hS hn hl hr hw
  obtain ⟨z, hz⟩ : ∃ z, n * 64 = z := ⟨_, rfl⟩
  have hz2 : z ≤ 262144 := by omega
  rw [hz] at HSz
  clear hz
  go_enter Tryd.func43, Tryd.ntmps43
  go_wp2_with (first
    | (go_at_call 44; refine HSz.out.mono ?_; rintro e w' ⟨rfl, hw⟩; have hw2 := hw.symm; clear hw; subst hw2)
    | (at_make; refine wpList_make_own _ rfl _ _ 22 rfl w.heap.size 5 i0 (.int .u8 0) 1 Tryd.underlying22 HI.out HZ0.out HZ1.out .i64 .u64 (z : Int) z rfl rfl rfl (by rw [HZ2.out]; omega) (by simp [maxLen]; omega) (Nat.le_refl _) ?_; intro w1 ho1 hg1; have HB1 : Hid (Below w.heap.size w w1) := (Below.refl _ _).grown hg1 (Nat.le_refl _) (fun k hk => by cases hk); have HO1 := Lib.hid (show OwnInts .u8 5 w1 w.heap.size _ [] from ho1); clear ho1 hg1)
    | (go_at_call 30; refine (lines_any w1 A S (HD.out.below HB1.out (Nat.le_refl _)).db).mono ?_; rintro e w' ⟨he, hw⟩; rw [HN.out] at he; subst he; have hw2 := hw.symm; clear hw; subst hw2))
  go_loopw [5, 6, 15] (fun v dd i wr => ∃ k : Nat, k ≤ n ∧ i = .int .i64 k ∧ dd = .int .i64 (count S ch k : Int) ∧ Hid (OwnInts .u8 5 wr w.heap.size v (content S (pickOf S ch) k) ∧ Below w.heap.size w wr)) (fun _ _ i _ => n - (intOf i).toNat)
  case atStart => exact ⟨0, by omega, rfl, by simp [count, dirtyTo], Lib.hid ⟨HO1.out, HB1.out⟩⟩
  case round =>
    obtain ⟨k, hk, rfl, rfl, HR⟩ := hrel
    by_cases hlt : k < n
    · have I1 := HD.out.below HR.out.2 (Nat.le_refl _)
      have HI1 := Lib.hid I1
      have c0 := I1.db.c0
      rw [HN.out] at c0
      have hkl : (k : Int) < (n : Int) := by omega
      have hkS : k < S.n := by rw [HN.out]; exact hlt
      have ch16 := I1.lines.cell (o := k * 18 + 16) (by omega)
      rw [linesG_hist] at ch16
      obtain ⟨a, c, hv⟩ := hist_slice (I1.hist k hkS)
      rw [hv] at ch16
      have hsum := HSS.out.sum k
      have hdl := dirtyTo_len S k
      have HAF := fun w2 (hb : Below wr.heap.size wr w2) => Lib.hid (after_any w2 A.lb (S.n * 18) (k * 18) (pickOf S ch k) w.heap.size (A.hv k) (S.pers k) (S.hist k) (linesG A S))
      have HCS := Lib.hid (content_succ S (pickOf S ch) k)
      have HDS := Lib.hid (dirtyTo_succ S k)
      have HPK := Lib.hid (show pickOf S ch k = _ from rfl)
      clear I1 HAF
      have fin : Hid (∀ (w2 : World), Below wr.heap.size wr w2 → Calls Tryd.prog 58 #[.pointer (some ⟨A.lb, k * 18, none⟩), .int .i64 (pickOf S ch k : Int)] w2 fun e w' => e = .returned (words8 (applyW (S.pers k) ((S.hist k).take (pickOf S ch k)))) ∧ Below w2.heap.size w2 w') := fun w2 hb => by
        have I2 := HI1.out.below hb (Nat.le_refl _)
        exact after_any w2 A.lb (S.n * 18) (k * 18) (pickOf S ch k) base (A.hv k) (S.pers k) (S.hist k) (linesG A S) I2.lines (by omega) (fun j hj => linesG_pers _ _ _ _ hj) (linesG_hist _ _ _) (I2.hist k hkS) (pickOf_le _ _ _) (HSS.out.fine k)
      have enc : Hid (∀ (w2 : World), Below wr.heap.size wr w2 → Calls Tryd.prog 45 #[u5, words8 (applyW (S.pers k) ((S.hist k).take (pickOf S ch k)))] w2 fun e w' => ∃ v', e = .returned v' ∧ Hid (OwnInts .u8 5 w' w.heap.size v' (content S (pickOf S ch) (k + 1)) ∧ Below w.heap.size w2 w')) := fun w2 hb => by
        have := encode_any w2 w.heap.size u5 (content S (pickOf S ch) k) (applyW (S.pers k) ((S.hist k).take (pickOf S ch k))) (HR.out.1.below hb) (by rw [content_len]; omega) (Nat.le_trans HR.out.2.size hb.size) (HSS.out.applied k _)
        rw [← HCS.out] at this
        exact this
      by_cases h0 : 0 < (S.hist k).length
      · by_cases h1 : 0 < m
        · have h1l : 0 < ch.length := by rw [HLE.out]; exact h1
          obtain ⟨x, hx⟩ : ∃ x, (dirtyTo S k).length % m = x := ⟨_, rfl⟩
          have hxm : x < m := by rw [← hx]; exact Nat.mod_lt _ h1
          have hcnt : count S ch k = (dirtyTo S k).length := by unfold count; rw [if_pos h1l]
          have hcnt2 : count S ch (k + 1) = count S ch k + 1 := by rw [hcnt]; unfold count; rw [if_pos h1l, dirtyTo_succ, if_pos h0, List.length_append]; rfl
          obtain ⟨ad, hC, hadb, hcell0⟩ := HRR.out x (by rw [HLE.out]; exact hxm)
          have hcell := (HR.out.2.cell (p := ad.add x) (by rw [add_block]; omega)).trans hcell0
          have hbr := HWW.out (ch.getD x 0) (by rw [getD_at (by rw [HLE.out]; exact hxm)]; exact List.getElem_mem _)
          obtain ⟨b, hb⟩ : ∃ b : Nat, ch.getD x 0 = (b : Int) := ⟨(ch.getD x 0).toNat, by omega⟩
          rw [hb] at hcell hbr
          have hpk : pickOf S ch k = b % ((S.hist k).length + 1) := by
            unfold pickOf
            rw [if_pos ⟨h0, h1l⟩, HLE.out, hx, hb]; rfl
          rw [hcnt]
          have HCN := Lib.hid hcnt2
          have HC1 := Lib.hid hcnt
          rw [hpk] at fin enc
          subst hC
          have hLM : (S.hist k).length ≤ 1000000 := by omega
          generalize hd : (dirtyTo S k).length = d at *
          generalize hL : (S.hist k).length = L at *
          have hLM2 : L ≤ 1000000 := by first | exact hLM | omega
          obtain ⟨pk, hpk2⟩ : ∃ pk, b % (L + 1) = pk := ⟨_, rfl⟩
          have hpkb : pk ≤ L := by have := Nat.mod_lt b (show 0 < L + 1 by omega); omega
          rw [hpk2] at fin enc
          have hb255 : b ≤ 255 := by omega
          have hwb : IntKind.i64.wrap (b : Int) = (b : Int) := IntWalk.i64_in _ ⟨by omega, by omega⟩
          have hmd : (d : Int) % (m : Int) = (x : Int) := by rw [← hx]; simp
          have htm : (d : Int).tmod (m : Int) = (x : Int) := by rw [Int.tmod_eq_emod_of_nonneg (by omega)]; exact hmd
          have hL1 : IntKind.i64.wrap ((L : Int) + 1) = (L : Int) + 1 := IntWalk.i64_in _ ⟨by omega, by omega⟩
          have hmp : (b : Int) % ((L : Int) + 1) = (pk : Int) := by rw [← hpk2]; simp
          have htp : (b : Int).tmod ((L : Int) + 1) = (pk : Int) := by rw [Int.tmod_eq_emod_of_nonneg (by omega)]; exact hmp
          have hx0 : (0 : Int) ≤ (x : Int) := by omega
          have hxmi : (x : Int) < (m : Int) := by omega
          have hwx : IntKind.i64.wrap (x : Int) = (x : Int) := IntWalk.i64_in _ ⟨by omega, by omega⟩
          have hpk0 : (0 : Int) ≤ (pk : Int) := by omega
          have hwp : IntKind.i64.wrap (pk : Int) = (pk : Int) := IntWalk.i64_in _ ⟨by omega, by omega⟩
          have h0i : (0 : Int) < (L : Int) := by omega
          have h1i : (0 : Int) < (m : Int) := by omega
          have hL0 : (0 : Int) ≤ (L : Int) + 1 := by omega
          have hm0 : ((m : Int) == 0) = false := by simp; omega
          have hLz : ((L : Int) + 1 == 0) = false := by simp; omega
          have hd1 : d ≤ 4096 := by omega
          clear hcnt hcnt2 hv hpk hpk2 hx hd hL hb hbr hcell0 h1l
          go_wp2
          go_quiet (fail)
          go_wp2_with (first
            | (go_at_call 58; refine (fin.out _ (below_drewN _ _ _)).mono ?_; rintro e w2 ⟨rfl, hb2⟩; have HB2 := Lib.hid ((below_drewN _ _ _).trans hb2); clear hb2)
            | (go_at_call 45; refine (enc.out _ HB2.out).mono ?_; rintro e w3 ⟨v3, rfl, HQ⟩))
          go_roundw
          case rel => exact ⟨k + 1, by omega, by go_num, by rw [HCN.out, HC1.out]; go_num, Lib.hid ⟨HQ.out.1, (HR.out.2.trans (HB2.out.mono HR.out.2.size)).trans HQ.out.2⟩⟩
          case measure => simp [intOf]; omega
        · have hm0 : m = 0 := by omega
          have hpk0 : pickOf S ch k = 0 := by unfold pickOf; rw [if_neg (fun h => h1 (by rw [← HLE.out]; exact h.2))]
          have hcnt : count S ch (k + 1) = count S ch k := by unfold count; rw [if_neg (by rw [HLE.out]; exact h1), if_neg (by rw [HLE.out]; exact h1)]
          have HCN := Lib.hid hcnt
          rw [hpk0] at fin enc
          have h1i : ¬ (0 : Int) < (m : Int) := by omega
          have h0i : (0 : Int) < ((S.hist k).length : Int) := by omega
          clear hcnt hv hpk0 h0 hm0
          generalize count S ch k = cc at *
          generalize S.hist k = hsk at *
          go_wp2_with (first
            | (go_at_call 58; refine (fin.out _ (Below.refl _ _)).mono ?_; rintro e w2 ⟨rfl, hb2⟩; have HB2 := Lib.hid hb2; clear hb2)
            | (go_at_call 45; refine (enc.out _ HB2.out).mono ?_; rintro e w3 ⟨v3, rfl, HQ⟩))
          go_roundw
          case rel => exact ⟨k + 1, by omega, by go_num, by rw [HCN.out], Lib.hid ⟨HQ.out.1, (HR.out.2.trans (HB2.out.mono HR.out.2.size)).trans HQ.out.2⟩⟩
          case measure => simp [intOf]; omega
      · have hp0 : pickOf S ch k = 0 := by unfold pickOf; rw [if_neg (fun h => h0 h.1)]
        have hcnt : count S ch (k + 1) = count S ch k := by unfold count; rw [dirtyTo_succ, if_neg h0]
        have HCN := Lib.hid hcnt
        rw [hp0] at fin enc
        have h00 : (S.hist k).length = 0 := by omega
        rw [h00] at ch16
        clear hcnt hv hp0 h0 h00
        generalize count S ch k = cc at *
        generalize S.hist k = hsk at *
        go_wp2_with (first
          | (go_at_call 58; refine (fin.out _ (Below.refl _ _)).mono ?_; rintro e w2 ⟨rfl, hb2⟩; have HB2 := Lib.hid hb2; clear hb2)
          | (go_at_call 45; refine (enc.out _ HB2.out).mono ?_; rintro e w3 ⟨v3, rfl, HQ⟩))
        go_roundw
        case rel => exact ⟨k + 1, by omega, by go_num, by rw [HCN.out], Lib.hid ⟨HQ.out.1, (HR.out.2.trans (HB2.out.mono HR.out.2.size)).trans HQ.out.2⟩⟩
        case measure => simp [intOf]; omega
    · have hk : k = n := by omega
      subst hk
      go_wp2
      go_ret
      exact ⟨_, rfl, HR⟩
theorem pickOf_nil (S : St) : pickOf S [] = fun _ => 0 := by
  funext i
  unfold pickOf
  rw [if_neg (fun h => by simp at h)]
theorem persisted_any (w : World) (base M : Nat) (A : Adr) (S : St) (h : IsDev w base A S) (hS : S.Ok M) (hM : M ≤ 1000000) :
    Calls Tryd.prog 32 #[.pointer (some ⟨A.d, 0, none⟩)] w fun e w' => ∃ v', e = .returned v' ∧ Hid (OwnInts .u8 5 w' w.heap.size v' (content S (fun _ => 0) S.n) ∧ Below w.heap.size w w') := by
  have HI := Lib.hid (image_any w base M A S none 0 0 w.heap.size [] h hS hM rfl (by omega) IntsAt.nil_ (Nat.le_refl _) (by simp))
  rw [pickOf_nil] at HI
  clear h hS
  go_enter Tryd.func32, Tryd.ntmps32
  go_wp2_with (go_at_call 43; refine HI.out.mono ?_; rintro e w1 ⟨v, rfl, HQ⟩)
  go_ret
  exact ⟨_, rfl, HQ⟩
end Go.Proofs.YtnhddgmegnehaaaDoor.Dev
