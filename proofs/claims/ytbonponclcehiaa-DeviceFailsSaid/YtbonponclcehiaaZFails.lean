/-
  PROVED: the law DeviceFails answers true for every input, and each argument reads behind the call as before (Rows.DeviceFailsSaid). No condition.
-/
import Derived.Test.YtbonponclcehiaaZG
import Derived.Test.YtbonponclcehiaaZM
import Derived.Test.YtbonponclcehiaaZB
import Derived.Deep.Cut
import Derived.Deep.DeepCutAuto
import Derived.Test.YtbonponclcehiaaRows
import Derived.Test.YtbonponclcehiaaZA
set_option linter.unusedVariables false
set_option linter.unusedSimpArgs false
/-
  DeviceFails: the walk.
-/
namespace Go.Proofs.Ytbonponclcehiaa.Dev
open Go.ChangeShapes Go.WideShapes Go.ChangeAt Go.RowKit Go.Proofs.Ytbonponclcehiaa.Mem Go.Proofs.Ytbonponclcehiaa.Args Go.Proofs.Ytbonponclcehiaa.Own
theorem bf_rnew {w0 w : World} {d r : Nat} {SA SR : St} (h : BothF w0 w d r SA SR) (n : Nat) (h0 : 1 ≤ n) (h1 : n ≤ 4096) :
    Calls Try.prog 16 #[.int .i64 (n : Int)] w fun q w' => ∃ r', q = .returned (.pointer (some ⟨r', 0, none⟩)) ∧ Hid (BothF w0 w' d r' SA (St.new n)) := by
  obtain ⟨A, R, e1, e2, hd, hr, hb, hk⟩ := h
  refine (rnew_any w n h0 h1).mono ?_
  rintro q w' ⟨R', e, H⟩
  exact ⟨R'.d, e, Lib.hid ⟨A, R', e1, rfl, hd.below H.out.2 (Nat.le_refl _), H.out.1.mono hb.size, hb.trans (H.out.2.mono hb.size), Only.ofBelow (hb.trans (H.out.2.mono hb.size)) _, fun b f => f.elim⟩⟩
/-- After k events of an armed run. -/
def FR (w0 w : World) (d r m k : Nat) : Prop := ∃ SA SR : St, BothF w0 w d r SA SR ∧ SA.Ok (2 * k) ∧ SR.Ok (2 * k) ∧ SA.Armed m
theorem FR.base {w0 w : World} {d r m k : Nat} (h : FR w0 w d r m k) : Below w0.heap.size w0 w := by
  obtain ⟨SA, SR, h, _⟩ := h
  exact h.base
theorem FR.below {w0 w w' : World} {d r m k : Nat} (h : FR w0 w d r m k) (hb : Below w.heap.size w w') : FR w0 w' d r m k := by
  obtain ⟨SA, SR, h, a, b, c⟩ := h
  exact ⟨SA, SR, BothK.below h hb, a, b, c⟩
theorem FR.next {w0 w : World} {d r m k : Nat} (h : FR w0 w d r m k) : FR w0 w d r m (k + 1) := by
  obtain ⟨SA, SR, h, a, b, c⟩ := h
  exact ⟨SA, SR, h, a.more (by omega), b.more (by omega), c⟩
theorem FR.upto {w0 w : World} {d r m k j : Nat} (h : FR w0 w d r m k) (hk : k ≤ j) : FR w0 w d r m j := by
  obtain ⟨SA, SR, h, a, b, c⟩ := h
  exact ⟨SA, SR, h, a.more (by omega), b.more (by omega), c⟩
theorem fr_do {w0 w : World} {d r m k : Nat} (h : FR w0 w d r m k) (hk : k ≤ 1000) (K T N : Int) (o old x : Nat) (hK : K % 7 ≠ 6) (ho : o < 18446744073709551616) (hx : x < 18446744073709551616) (hn1 : -9223372036854775808 ≤ N) (hn2 : N ≤ 9223372036854775807) :
    Calls Try.prog 44 #[.pointer (some ⟨d, 0, none⟩), .pointer (some ⟨r, 0, none⟩), .agg #[.int .i64 K, .int .i64 T, .int .u64 (o : Int), .int .u64 (old : Int), .int .u64 (x : Int), .int .i64 N]] w fun q w' => ∃ b : Bool, q = .returned (.bool b) ∧ Hid (FR w0 w' d r m (k + 1)) := by
  obtain ⟨SA, SR, h, a, b, c⟩ := h
  refine (do_gen w0 _ w0 w d r (2 * k) SA SR K T N o old x h a b (by omega) ho hx hn1 hn2).mono ?_
  rintro q w' ⟨q1, e, _, H⟩
  exact ⟨q1, e, Lib.hid ⟨_, _, H.out, St.ev_ok a _ _ _ _ _ _ hx hn2, St.ev_ok b _ _ _ _ _ _ hx hn2, St.ev_armed c _ _ _ _ _ _ hK⟩⟩
/-- After k events on a device that is off. -/
def FZ (S : St) (w0 w : World) (d r k : Nat) : Prop := ∃ SA SR : St, BothF w0 w d r SA SR ∧ SA.Ok (80 + 2 * k) ∧ SR.Ok (80 + 2 * k) ∧ St.Froz S SA
theorem FZ.base {S : St} {w0 w : World} {d r k : Nat} (h : FZ S w0 w d r k) : Below w0.heap.size w0 w := by
  obtain ⟨SA, SR, h, _⟩ := h
  exact h.base
theorem FZ.below {S : St} {w0 w w' : World} {d r k : Nat} (h : FZ S w0 w d r k) (hb : Below w.heap.size w w') : FZ S w0 w' d r k := by
  obtain ⟨SA, SR, h, a, b, c⟩ := h
  exact ⟨SA, SR, BothK.below h hb, a, b, c⟩
theorem fz_do {S : St} {w0 w : World} {d r k : Nat} (h : FZ S w0 w d r k) (hk : k ≤ 1000) (K T N : Int) (o old x : Nat) (ho : o < 18446744073709551616) (hx : x < 18446744073709551616) (hn1 : -9223372036854775808 ≤ N) (hn2 : N ≤ 9223372036854775807) :
    Calls Try.prog 44 #[.pointer (some ⟨d, 0, none⟩), .pointer (some ⟨r, 0, none⟩), .agg #[.int .i64 K, .int .i64 T, .int .u64 (o : Int), .int .u64 (old : Int), .int .u64 (x : Int), .int .i64 N]] w fun q w' => ∃ b : Bool, q = .returned (.bool b) ∧ Hid (∃ e : Int, FZ S w0 w' d r (k + 1) ∧ (K % 7 < 5 → (e == 0) = false) ∧
      Calls Try.prog 40 #[.pointer (some ⟨d, 1 + (T % 8).toNat * 4, none⟩)] w' fun r w2 => r = .returned (.int .i64 e) ∧ w2 = w') := by
  obtain ⟨SA, SR, h, a, b, c⟩ := h
  refine (do_gen w0 _ w0 w d r (80 + 2 * k) SA SR K T N o old x h a b (by omega) ho hx hn1 hn2).mono ?_
  rintro q w' ⟨q1, e, _, H⟩
  refine ⟨q1, e, Lib.hid ⟨((SA.ev K T o old x N).err (T % 8).toNat : Int), ⟨_, _, H.out, St.ev_ok a _ _ _ _ _ _ hx hn2, St.ev_ok b _ _ _ _ _ _ hx hn2, St.ev_froz c _ _ _ _ _ _⟩, fun h5 => ?_, bk_err H.out (T % 8).toNat (by omega)⟩⟩
  have := St.ev_err c.off K T o old x N h5
  simp
  omega
theorem fz_off {S : St} {w0 w : World} {d r k : Nat} (h : FZ S w0 w d r k) : Calls Try.prog 27 #[.pointer (some ⟨d, 0, none⟩)] w fun q w' => q = .returned (.bool true) ∧ w' = w := by
  obtain ⟨SA, SR, h, a, b, c⟩ := h
  have := bk_off h
  rw [c.off] at this
  exact this
theorem fz_executed {S : St} {w0 w : World} {d r k : Nat} (h : FZ S w0 w d r k) : Calls Try.prog 28 #[.pointer (some ⟨d, 0, none⟩)] w fun q w' => q = .returned (.int .u64 (S.ex : Int)) ∧ w' = w := by
  obtain ⟨SA, SR, h, a, b, c⟩ := h
  have := bk_executed h
  rw [c.ex] at this
  exact this
theorem Made.base {w w' w2 : World} {e : Ending} {n : Nat} {cs : List Int} (h : Made w' w' w2 e n cs) (hb : Below w.heap.size w w') : Made w w' w2 e n cs := by
  obtain ⟨D, c, he, hb2, _, H⟩ := h
  exact ⟨D, c, he, hb2, hb.trans (hb2.mono hb.size), H⟩
/-- Its contents, as texts. -/
theorem fz_current {S : St} {w0 w : World} {d r k : Nat} (h : FZ S w0 w d r k) : Calls Try.prog 32 #[.pointer (some ⟨d, 0, none⟩)] w fun e w2 => Made w w w2 e (64 * S.n) (content S (whole S) S.n) := by
  obtain ⟨SA, SR, h, a, b, c⟩ := h
  refine (bk_current h a).mono ?_
  rintro e w2 ⟨v, he, H⟩
  have := Made.of (Below.refl _ _) he H.out.1 H.out.2.1
  rw [content_len, (content_froz c).1, c.n] at this
  exact this
theorem fz_persisted {S : St} {w0 w : World} {d r k : Nat} (h : FZ S w0 w d r k) (hk : k ≤ 1000) : Calls Try.prog 20 #[.pointer (some ⟨d, 0, none⟩)] w fun e w2 => Made w w w2 e (64 * S.n) (content S (fun _ => 0) S.n) := by
  obtain ⟨SA, SR, h, a, b, c⟩ := h
  refine (bk_persisted h a (by omega)).mono ?_
  rintro e w2 ⟨v, he, H⟩
  have := Made.of (Below.refl _ _) he H.out.1 H.out.2.1
  rw [content_len, (content_froz c).2, c.n] at this
  exact this
end Go.Proofs.Ytbonponclcehiaa.Dev
/-
  DeviceFails: the walk.
-/
namespace Go.Proofs.Ytbonponclcehiaa.Dev
open Go.ChangeShapes Go.WideShapes Go.ChangeAt Go.RowKit Go.Proofs.Ytbonponclcehiaa.Mem Go.Proofs.Ytbonponclcehiaa.Args Go.Proofs.Ytbonponclcehiaa.Own
set_option maxRecDepth 100000 in
set_option maxHeartbeats 1000000 in
theorem fails_walk (W : World) (L nn : Int) (E : Option Addr) (n c : Nat) (E2 : Option Addr) (n2 c2 : Nat) (hE : EvsAt W W.heap.size E n) (hn : n ≤ maxLen) (hE2 : EvsAt W W.heap.size E2 n2) (hn2 : n2 ≤ maxLen) :
    Calls Try.prog 10 #[.agg #[.int .i64 L, .slice E n c], .int .i64 nn, .slice E2 n2 c2] W fun e W' => e = .returned (.bool true) ∧ Below W.heap.size W W' := by
  have HEV := Lib.hid hE
  have HEV2 := Lib.hid hE2
  have HBE := Lib.hid (fun w => begin_any w L)
  obtain ⟨m, hm⟩ : ∃ m : Nat, nn % 30 = (m : Int) := ⟨(nn % 30).toNat, by omega⟩
  have hm30 : m < 30 := by omega
  have HM := Lib.hid hm
  have hmw : IntKind.u64.wrap (m : Int) = (m : Int) := by rw [IntKind.wrap_u64]; omega
  obtain ⟨wb, hwb⟩ : ∃ wb, W.alloc (.cells #[.int .i64 L, .slice E n c] 57) = wb := ⟨_, rfl⟩
  have hb1 : wb.cell? ⟨W.heap.size, 1, none⟩ = some (.slice E n c) := by rw [← hwb]; exact (Blk.new W _ _).cell (o := 1) (by show 1 < 2; omega)
  have hb0 : wb.cell? ⟨W.heap.size, 0, none⟩ = some (.int .i64 L) := by rw [← hwb]; exact (Blk.new W _ _).cell (o := 0) (by show 0 < 2; omega)
  have HBB : Hid (Below W.heap.size W wb) := by rw [← hwb]; exact (Below.refl _ _).alloc (Nat.le_refl _) _
  have HWB := Lib.hid hwb
  clear hE hE2 hwb hm
  go_enter Try.func10, Try.ntmps10
  go_wp2_with (fail)
  rw [HWB.out]
  refine (HBE.out _).mono ?_
  rintro e w1 ⟨d, r0, rfl, H1⟩
  obtain ⟨n0, hn6, hn1, hbo⟩ := H1.out
  have HB1 := Lib.hid hbo.bothF
  clear hbo H1 HBE
  go_wp2_with (first
    | (go_at_call 12; go_must (refine (awake_any _).mono ?_); rintro e w2 ⟨rfl, H2⟩; have HB2 := Lib.hid (BothK.below HB1.out H2.out); have HLN : Hid (Calls Try.prog 25 #[.pointer (some ⟨d, 0, none⟩)] w2 fun q w' => q = .returned (.int .i64 (n0 : Int)) ∧ w' = w2) := Lib.hid (bk_lines HB2.out))
    | (go_at_call 25; go_must (refine HLN.out.mono ?_); rintro e w' ⟨rfl, hw⟩; have hw2 := hw.symm; clear hw; subst hw2)
    | (go_at_call 16; go_must (refine (bf_rnew HB2.out n0 hn1 (by omega)).mono ?_); rintro e w3 ⟨r, rfl, HB3⟩)
    | (go_at_call 47; refine (mod_any _ _ _ (by decide) (by decide)).mono ?_; rintro e w' ⟨rfl, hw⟩; have hw2 := hw.symm; clear hw; subst hw2; go_must (rw [HM.out]))
    | (go_at_call 21; go_must (refine (bk_arm HB3.out (m : Int) (by omega) (by omega)).mono ?_); rintro e w4 ⟨rfl, HB4⟩))
  have HF0 : Hid (FR wb w4 d r m 0) := Lib.hid ⟨_, _, HB4.out, (St.armS_ok (St.new_ok n0 hn1 (by omega)) (m : Int) (by omega)), St.new_ok n0 hn1 (by omega), St.armS_new n0 m⟩
  clear HB1 HB2 HB3 HB4 HLN H2 hb0
  go_loopw [10] (fun i wr => ∃ k : Nat, k ≤ 40 ∧ k ≤ n ∧ i = .int .i64 k ∧ Hid (FR wb wr d r m k)) (fun i _ => 40 - (intOf i).toNat)
  case atStart => exact ⟨0, by omega, by omega, rfl, HF0⟩
  case round =>
    obtain ⟨k, hkm, hkn, rfl, HRk⟩ := hrel
    have hbk := HRk.out.base
    have c1 : wr.cell? ⟨W.heap.size, 1, none⟩ = some (.slice E n c) := (hbk.cell (p := ⟨W.heap.size, 1, none⟩) (cell_lt hb1)).trans hb1
    by_cases hln : k < n
    · have hlni : (k : Int) < (n : Int) := by omega
      by_cases hlm : k < 40
      · have hlmi : (k : Int) < 40 := by omega
        obtain ⟨ad, rfl, hB, K, T, N, o, old, x, b1, b2, b3, b4, k0, k1, k2, k3, k4, k5⟩ := HEV.out.below (HBB.out.trans (hbk.mono HBB.out.size)) k hln
        by_cases h6 : K % 7 = 6
        · have H6 := Lib.hid h6
          clear hbk hB h6
          go_wp2_with (go_at_call 47; refine (mod_any _ _ _ (by decide) (by decide)).mono ?_; rintro e w' ⟨rfl, hw⟩; have hw2 := hw.symm; clear hw; subst hw2; go_must (rw [H6.out]))
          go_roundw
          case rel => exact ⟨k + 1, by omega, by omega, by go_num, Lib.hid (FR.below HRk.out.next (by repeat (first | exact Below.refl _ _ | refine Below.setCell ?_ (Nat.le_refl _) _ | refine Below.alloc ?_ (Nat.le_refl _) _)))⟩
          case measure => simp [intOf]; omega
        · obtain ⟨kk, hkk⟩ : ∃ kk : Nat, K % 7 = (kk : Int) := ⟨(K % 7).toNat, by omega⟩
          have HKK := Lib.hid hkk
          have hkn6 : ((kk : Int) == 6) = false := by simp; omega
          have HDO : Hid (∀ w', Below wr.heap.size wr w' → Calls Try.prog 44 #[.pointer (some ⟨d, 0, none⟩), .pointer (some ⟨r, 0, none⟩), .agg #[.int .i64 K, .int .i64 T, .int .u64 (o : Int), .int .u64 (old : Int), .int .u64 (x : Int), .int .i64 N]] w' fun q w' => ∃ b : Bool, q = .returned (.bool b) ∧ Hid (FR wb w' d r m (k + 1))) := Lib.hid fun w' hb => fr_do (HRk.out.below hb) (by omega) K T N o old x h6 b1 b2 b3 b4
          clear hbk hB h6 hkk
          go_wp2_with (first
            | (go_at_call 47; refine (mod_any _ _ _ (by decide) (by decide)).mono ?_; rintro e w' ⟨rfl, hw⟩; have hw2 := hw.symm; clear hw; subst hw2; go_must (rw [HKK.out]))
            | (go_at_call 44; go_must (refine (HDO.out _ (by repeat (first | exact Below.refl _ _ | refine Below.setCell ?_ (Nat.le_refl _) _ | refine Below.alloc ?_ (Nat.le_refl _) _))).mono ?_); rintro e w3 ⟨bb, rfl, H3⟩))
          go_roundw
          case rel => exact ⟨k + 1, by omega, by omega, by go_num, H3⟩
          case measure => simp [intOf]; omega
      · have hlmi : ¬ (k : Int) < 40 := by omega
        have HF := Lib.hid (HRk.out.upto (j := 40) (by omega))
        clear HRk hbk
        obtain ⟨SA, SR, hbf, hoA, hoR, har⟩ := HF.out
        have HB := Lib.hid hbf
        have HOA := Lib.hid hoA
        have HOR := Lib.hid hoR
        obtain ⟨ex, hex⟩ : ∃ ex, SA.ex = ex := ⟨_, rfl⟩
        have hexm : ex ≤ m := by
          rw [← hex]
          cases ho : SA.off with
          | true => rw [har.dead ho]; omega
          | false => obtain ⟨q, _, h⟩ := har.on ho; omega
        have HEX : Hid (∀ w, BothF wb w d r SA SR → Calls Try.prog 28 #[.pointer (some ⟨d, 0, none⟩)] w fun q w' => q = .returned (.int .u64 (ex : Int)) ∧ w' = w) := Lib.hid fun w h => by
          have := bk_executed h
          rw [hex] at this
          exact this
        have hgt : ¬ (m : Int) < (ex : Int) := by omega
        by_cases hoff : SA.off = true
        · have hexe : ex = m := by rw [← hex]; exact har.dead hoff
          have HOF : Hid (∀ w, BothF wb w d r SA SR → Calls Try.prog 27 #[.pointer (some ⟨d, 0, none⟩)] w fun q w' => q = .returned (.bool true) ∧ w' = w) := Lib.hid fun w h => by
            have := bk_off h
            rw [hoff] at this
            exact this
          have HZ : Hid (FZ SA wb wr d r 0) := Lib.hid ⟨SA, SR, hbf, hoA.more (by omega), hoR.more (by omega), St.Froz.refl hoff⟩
          have HXM : Hid (SA.ex = m) := Lib.hid (hex.trans hexe)
          clear hbf hoA hoR har hex hoff HF
          subst hexe
          go_upto_region 17 with (first
            | (go_at_call 28; go_must (refine (HEX.out _ HB.out).mono ?_); rintro e w' ⟨rfl, hw⟩; have hw2 := hw.symm; clear hw; subst hw2)
            | (go_at_call 27; go_must (refine (HOF.out _ HB.out).mono ?_); rintro e w' ⟨rfl, hw⟩; have hw2 := hw.symm; clear hw; subst hw2))
          have HCU : Hid (∀ w', Below wr.heap.size wr w' → Calls Try.prog 32 #[.pointer (some ⟨d, 0, none⟩)] w' fun e w2 => Made wr w' w2 e (64 * SA.n) (content SA (whole SA) SA.n)) := Lib.hid fun w' hb => (fz_current (HZ.out.below hb)).mono fun e w2 h => h.base hb
          have HPE : Hid (∀ w', Below wr.heap.size wr w' → Calls Try.prog 20 #[.pointer (some ⟨d, 0, none⟩)] w' fun e w2 => Made wr w' w2 e (64 * SA.n) (content SA (fun _ => 0) SA.n)) := Lib.hid fun w' hb => (fz_persisted (HZ.out.below hb) (by omega)).mono fun e w2 h => h.base hb
          have HCU2 : Hid (∀ w' k, FZ SA wb w' d r k → Calls Try.prog 32 #[.pointer (some ⟨d, 0, none⟩)] w' fun e w2 => Made w' w' w2 e (64 * SA.n) (content SA (whole SA) SA.n)) := Lib.hid fun w' k h => fz_current h
          have HPE2 : Hid (∀ w' k, k ≤ 1000 → FZ SA wb w' d r k → Calls Try.prog 20 #[.pointer (some ⟨d, 0, none⟩)] w' fun e w2 => Made w' w' w2 e (64 * SA.n) (content SA (fun _ => 0) SA.n)) := Lib.hid fun w' k hk h => fz_persisted h hk
          have HOF2 : Hid (∀ w' k, FZ SA wb w' d r k → Calls Try.prog 27 #[.pointer (some ⟨d, 0, none⟩)] w' fun q w2 => q = .returned (.bool true) ∧ w2 = w') := Lib.hid fun w' k h => fz_off h
          have HEX2 : Hid (∀ w' k, FZ SA wb w' d r k → Calls Try.prog 28 #[.pointer (some ⟨d, 0, none⟩)] w' fun q w2 => q = .returned (.int .u64 (ex : Int)) ∧ w2 = w') := Lib.hid fun w' k h => by
            have := fz_executed h
            rw [HXM.out] at this
            exact this
          generalize content SA (whole SA) SA.n = X1 at *
          generalize content SA (fun _ => 0) SA.n = X2 at *
          go_cut [12, 13] (fun s12 s13 wx => s12 = .string (bstr X1) ∧ s13 = .string (bstr X2) ∧ Hid (FZ SA wb wx d r 0))
          case first =>
            have hS0 : Below wr.heap.size wr wr := Below.refl _ _
            have hS1 : Below wr.heap.size wr wr.drew := hS0.drew
            go_region_with (first
              | (go_at_call 32; go_must (refine (HCU.out _ (by assumption)).mono ?_); rintro e w1 ⟨D1, c1', rfl, b1, a1, K1⟩; have k1 := K1.out w1 (Below.refl _ _))
              | (go_at_call 20; go_must (refine (HPE.out _ (by assumption)).mono ?_); rintro e w2 ⟨D2, c2', rfl, b2, a2, K2⟩; have k2 := K2.out w2 (Below.refl _ _); have k1b := K1.out w2 b2))
            all_goals (go_wp2; go_meet; exact ⟨rfl, rfl, Lib.hid (HZ.out.below (by assumption))⟩)
          case rest =>
            obtain ⟨rfl, rfl, HZ0⟩ := hcut
            obtain ⟨str1, hstr1⟩ : ∃ s, bstr X1 = s := ⟨_, rfl⟩
            obtain ⟨str2, hstr2⟩ : ∃ s, bstr X2 = s := ⟨_, rfl⟩
            rw [hstr1, hstr2]
            have HS1 := Lib.hid hstr1
            have HS2 := Lib.hid hstr2
            clear hstr1 hstr2 HZ c1 HB HCU HPE HOF HEX
            go_wp2_with (fail)
            go_loopw [14] (fun i wx => ∃ k : Nat, k ≤ 12 ∧ k ≤ n2 ∧ i = .int .i64 k ∧ Hid (FZ SA wb wx d r k)) (fun i _ => 12 - (intOf i).toNat)
            case atStart => exact ⟨0, by omega, by omega, rfl, HZ0⟩
            case round =>
              obtain ⟨k', hk12, hkn2, rfl, HZk⟩ := hrel
              have hbz := HZk.out.base
              by_cases hln2 : k' < n2
              · have hlni2 : (k' : Int) < (n2 : Int) := by omega
                by_cases hlm2 : k' < 12
                · have hlmi2 : (k' : Int) < 12 := by omega
                  obtain ⟨ad, rfl, hB, K, T, N, o, old, x, b1, b2, b3, b4, k0, k1, k2, k3, k4, k5⟩ := HEV2.out.below (HBB.out.trans (hbz.mono HBB.out.size)) k' hln2
                  have adlt : (ad.add (k' * 6)).block < wb.heap.size := by rw [add_block]; exact Nat.lt_of_lt_of_le hB HBB.out.size
                  have HKC : Hid (∀ w', FZ SA wb w' d r (k' + 1) → w'.cell? (ad.add (k' * 6)) = some (.int .i64 K) ∧ w'.cell? ⟨(ad.add (k' * 6)).block, (ad.add (k' * 6)).off + 1, none⟩ = some (.int .i64 T)) := Lib.hid fun w' h => by
                    obtain ⟨ad', e', _, K', T', N', o', old', x', _, _, _, _, j0, j1, _⟩ := HEV2.out.below (HBB.out.trans (h.base.mono HBB.out.size)) k' hln2
                    cases e'
                    have q0 : w'.cell? (ad.add (k' * 6)) = wr.cell? (ad.add (k' * 6)) := (h.base.cell adlt).trans (hbz.cell adlt).symm
                    have q1 : w'.cell? ⟨(ad.add (k' * 6)).block, (ad.add (k' * 6)).off + 1, none⟩ = wr.cell? ⟨(ad.add (k' * 6)).block, (ad.add (k' * 6)).off + 1, none⟩ := (h.base.cell (p := ⟨(ad.add (k' * 6)).block, (ad.add (k' * 6)).off + 1, none⟩) adlt).trans (hbz.cell (p := ⟨(ad.add (k' * 6)).block, (ad.add (k' * 6)).off + 1, none⟩) adlt).symm
                    exact ⟨q0.trans k0, q1.trans k1⟩
                  have HDO := Lib.hid (fz_do HZk.out (by omega) K T N o old x b1 b2 b3 b4)
                  obtain ⟨kk, hkk⟩ : ∃ kk : Nat, K % 7 = (kk : Int) := ⟨(K % 7).toNat, by omega⟩
                  obtain ⟨tt, htt⟩ : ∃ tt : Nat, T % 8 = (tt : Int) := ⟨(T % 8).toNat, by omega⟩
                  have htn : (T % 8).toNat = tt := by omega
                  have htt8 : tt < 8 := by omega
                  rw [hkk, htn] at HDO
                  have HKK := Lib.hid hkk
                  have HTT := Lib.hid htt
                  clear hbz hB hkk htt htn
                  by_cases h5 : kk < 5
                  · have h5i : (kk : Int) < 5 := by omega
                    go_wp2_with (first
                      | (go_at_call 44; go_must (refine HDO.out.mono ?_); rintro e w3 ⟨bb, rfl, H3⟩; obtain ⟨er, hz3, he3, hc3⟩ := H3.out; have HZ3 := Lib.hid hz3; have HC3 := Lib.hid hc3; obtain ⟨j0, j1⟩ := HKC.out _ hz3; have he4 := he3 h5i; clear hz3 he3 hc3 H3)
                      | (go_at_call 47; refine (mod_any _ _ _ (by decide) (by decide)).mono ?_; rintro e w' ⟨rfl, hw⟩; have hw2 := hw.symm; clear hw; subst hw2; go_must (first | rw [HKK.out] | rw [HTT.out]))
                      | (go_at_call 17; go_must (refine (thread_any _ d tt htt8).mono ?_); rintro e w' ⟨rfl, hw⟩; have hw2 := hw.symm; clear hw; subst hw2)
                      | (go_at_call 40; go_must (refine HC3.out.mono ?_); rintro e w' ⟨rfl, hw⟩; have hw2 := hw.symm; clear hw; subst hw2))
                    go_roundw
                    case rel => exact ⟨k' + 1, by omega, by omega, by go_num, HZ3⟩
                    case measure => simp [intOf]; omega
                  · have h5i : ¬ (kk : Int) < 5 := by omega
                    go_wp2_with (first
                      | (go_at_call 44; go_must (refine HDO.out.mono ?_); rintro e w3 ⟨bb, rfl, H3⟩; obtain ⟨er, hz3, he3, hc3⟩ := H3.out; have HZ3 := Lib.hid hz3; have HC3 := Lib.hid hc3; obtain ⟨j0, j1⟩ := HKC.out _ hz3; clear hz3 he3 hc3 H3)
                      | (go_at_call 47; refine (mod_any _ _ _ (by decide) (by decide)).mono ?_; rintro e w' ⟨rfl, hw⟩; have hw2 := hw.symm; clear hw; subst hw2; go_must (first | rw [HKK.out] | rw [HTT.out]))
                      | (go_at_call 17; go_must (refine (thread_any _ d tt htt8).mono ?_); rintro e w' ⟨rfl, hw⟩; have hw2 := hw.symm; clear hw; subst hw2)
                      | (go_at_call 40; go_must (refine HC3.out.mono ?_); rintro e w' ⟨rfl, hw⟩; have hw2 := hw.symm; clear hw; subst hw2))
                    go_roundw
                    case rel => exact ⟨k' + 1, by omega, by omega, by go_num, HZ3⟩
                    case measure => simp [intOf]; omega
                · have hlmi2 : ¬ (k' : Int) < 12 := by omega
                  go_wp2_with (first
                    | (go_at_call 27; go_must (refine (HOF2.out _ _ HZk.out).mono ?_); rintro e w' ⟨rfl, hw⟩; have hw2 := hw.symm; clear hw; subst hw2)
                    | (go_at_call 28; go_must (refine (HEX2.out _ _ HZk.out).mono ?_); rintro e w' ⟨rfl, hw⟩; have hw2 := hw.symm; clear hw; subst hw2)
                    | (go_at_call 32; go_must (refine (HCU2.out _ _ HZk.out).mono ?_); rintro e w1 ⟨D1, c1', rfl, b1, a1, K1⟩; have k1 := K1.out w1 (Below.refl _ _); rw [HS1.out] at k1; have HZ1 := Lib.hid (HZk.out.below b1))
                    | (go_at_call 20; go_must (refine (HPE2.out _ _ (by omega) HZ1.out).mono ?_); rintro e w2 ⟨D2, c2', rfl, b2, a2, K2⟩; have k2 := K2.out w2 (Below.refl _ _); rw [HS2.out] at k2; have HZ2 := Lib.hid (HZ1.out.below b2)))
                  go_ret
                  exact ⟨rfl, HBB.out.trans (HZ2.out.base.mono HBB.out.size)⟩
              · have hlni2 : ¬ (k' : Int) < (n2 : Int) := by omega
                go_wp2_with (first
                  | (go_at_call 27; go_must (refine (HOF2.out _ _ HZk.out).mono ?_); rintro e w' ⟨rfl, hw⟩; have hw2 := hw.symm; clear hw; subst hw2)
                  | (go_at_call 28; go_must (refine (HEX2.out _ _ HZk.out).mono ?_); rintro e w' ⟨rfl, hw⟩; have hw2 := hw.symm; clear hw; subst hw2)
                  | (go_at_call 32; go_must (refine (HCU2.out _ _ HZk.out).mono ?_); rintro e w1 ⟨D1, c1', rfl, b1, a1, K1⟩; have k1 := K1.out w1 (Below.refl _ _); rw [HS1.out] at k1; have HZ1 := Lib.hid (HZk.out.below b1))
                  | (go_at_call 20; go_must (refine (HPE2.out _ _ (by omega) HZ1.out).mono ?_); rintro e w2 ⟨D2, c2', rfl, b2, a2, K2⟩; have k2 := K2.out w2 (Below.refl _ _); rw [HS2.out] at k2; have HZ2 := Lib.hid (HZ1.out.below b2)))
                go_ret
                exact ⟨rfl, HBB.out.trans (HZ2.out.base.mono HBB.out.size)⟩
        · have hoff2 : SA.off = false := by cases ho : SA.off with | false => rfl | true => exact absurd ho hoff
          have HOF : Hid (∀ w, BothF wb w d r SA SR → Calls Try.prog 27 #[.pointer (some ⟨d, 0, none⟩)] w fun q w' => q = .returned (.bool false) ∧ w' = w) := Lib.hid fun w h => by
            have := bk_off h
            rw [hoff2] at this
            exact this
          have HBE := Lib.hid HF.out.base
          clear hbf hoA hoR har hex hoff hoff2 HF
          go_wp2_with (first
            | (go_at_call 28; go_must (refine (HEX.out _ HB.out).mono ?_); rintro e w' ⟨rfl, hw⟩; have hw2 := hw.symm; clear hw; subst hw2)
            | (go_at_call 27; go_must (refine (HOF.out _ HB.out).mono ?_); rintro e w' ⟨rfl, hw⟩; have hw2 := hw.symm; clear hw; subst hw2))
          go_ret
          exact ⟨rfl, HBB.out.trans (HBE.out.mono HBB.out.size)⟩
    · have hlni : ¬ (k : Int) < (n : Int) := by omega
      have HF := Lib.hid (HRk.out.upto (j := 40) (by omega))
      clear HRk hbk
      obtain ⟨SA, SR, hbf, hoA, hoR, har⟩ := HF.out
      have HB := Lib.hid hbf
      have HOA := Lib.hid hoA
      have HOR := Lib.hid hoR
      obtain ⟨ex, hex⟩ : ∃ ex, SA.ex = ex := ⟨_, rfl⟩
      have hexm : ex ≤ m := by
        rw [← hex]
        cases ho : SA.off with
        | true => rw [har.dead ho]; omega
        | false => obtain ⟨q, _, h⟩ := har.on ho; omega
      have HEX : Hid (∀ w, BothF wb w d r SA SR → Calls Try.prog 28 #[.pointer (some ⟨d, 0, none⟩)] w fun q w' => q = .returned (.int .u64 (ex : Int)) ∧ w' = w) := Lib.hid fun w h => by
        have := bk_executed h
        rw [hex] at this
        exact this
      have hgt : ¬ (m : Int) < (ex : Int) := by omega
      by_cases hoff : SA.off = true
      · have hexe : ex = m := by rw [← hex]; exact har.dead hoff
        have HOF : Hid (∀ w, BothF wb w d r SA SR → Calls Try.prog 27 #[.pointer (some ⟨d, 0, none⟩)] w fun q w' => q = .returned (.bool true) ∧ w' = w) := Lib.hid fun w h => by
          have := bk_off h
          rw [hoff] at this
          exact this
        have HZ : Hid (FZ SA wb wr d r 0) := Lib.hid ⟨SA, SR, hbf, hoA.more (by omega), hoR.more (by omega), St.Froz.refl hoff⟩
        have HXM : Hid (SA.ex = m) := Lib.hid (hex.trans hexe)
        clear hbf hoA hoR har hex hoff HF
        subst hexe
        go_upto_region 17 with (first
          | (go_at_call 28; go_must (refine (HEX.out _ HB.out).mono ?_); rintro e w' ⟨rfl, hw⟩; have hw2 := hw.symm; clear hw; subst hw2)
          | (go_at_call 27; go_must (refine (HOF.out _ HB.out).mono ?_); rintro e w' ⟨rfl, hw⟩; have hw2 := hw.symm; clear hw; subst hw2))
        have HCU : Hid (∀ w', Below wr.heap.size wr w' → Calls Try.prog 32 #[.pointer (some ⟨d, 0, none⟩)] w' fun e w2 => Made wr w' w2 e (64 * SA.n) (content SA (whole SA) SA.n)) := Lib.hid fun w' hb => (fz_current (HZ.out.below hb)).mono fun e w2 h => h.base hb
        have HPE : Hid (∀ w', Below wr.heap.size wr w' → Calls Try.prog 20 #[.pointer (some ⟨d, 0, none⟩)] w' fun e w2 => Made wr w' w2 e (64 * SA.n) (content SA (fun _ => 0) SA.n)) := Lib.hid fun w' hb => (fz_persisted (HZ.out.below hb) (by omega)).mono fun e w2 h => h.base hb
        have HCU2 : Hid (∀ w' k, FZ SA wb w' d r k → Calls Try.prog 32 #[.pointer (some ⟨d, 0, none⟩)] w' fun e w2 => Made w' w' w2 e (64 * SA.n) (content SA (whole SA) SA.n)) := Lib.hid fun w' k h => fz_current h
        have HPE2 : Hid (∀ w' k, k ≤ 1000 → FZ SA wb w' d r k → Calls Try.prog 20 #[.pointer (some ⟨d, 0, none⟩)] w' fun e w2 => Made w' w' w2 e (64 * SA.n) (content SA (fun _ => 0) SA.n)) := Lib.hid fun w' k hk h => fz_persisted h hk
        have HOF2 : Hid (∀ w' k, FZ SA wb w' d r k → Calls Try.prog 27 #[.pointer (some ⟨d, 0, none⟩)] w' fun q w2 => q = .returned (.bool true) ∧ w2 = w') := Lib.hid fun w' k h => fz_off h
        have HEX2 : Hid (∀ w' k, FZ SA wb w' d r k → Calls Try.prog 28 #[.pointer (some ⟨d, 0, none⟩)] w' fun q w2 => q = .returned (.int .u64 (ex : Int)) ∧ w2 = w') := Lib.hid fun w' k h => by
          have := fz_executed h
          rw [HXM.out] at this
          exact this
        generalize content SA (whole SA) SA.n = X1 at *
        generalize content SA (fun _ => 0) SA.n = X2 at *
        go_cut [12, 13] (fun s12 s13 wx => s12 = .string (bstr X1) ∧ s13 = .string (bstr X2) ∧ Hid (FZ SA wb wx d r 0))
        case first =>
          have hS0 : Below wr.heap.size wr wr := Below.refl _ _
          have hS1 : Below wr.heap.size wr wr.drew := hS0.drew
          go_region_with (first
            | (go_at_call 32; go_must (refine (HCU.out _ (by assumption)).mono ?_); rintro e w1 ⟨D1, c1', rfl, b1, a1, K1⟩; have k1 := K1.out w1 (Below.refl _ _))
            | (go_at_call 20; go_must (refine (HPE.out _ (by assumption)).mono ?_); rintro e w2 ⟨D2, c2', rfl, b2, a2, K2⟩; have k2 := K2.out w2 (Below.refl _ _); have k1b := K1.out w2 b2))
          all_goals (go_wp2; go_meet; exact ⟨rfl, rfl, Lib.hid (HZ.out.below (by assumption))⟩)
        case rest =>
          obtain ⟨rfl, rfl, HZ0⟩ := hcut
          obtain ⟨str1, hstr1⟩ : ∃ s, bstr X1 = s := ⟨_, rfl⟩
          obtain ⟨str2, hstr2⟩ : ∃ s, bstr X2 = s := ⟨_, rfl⟩
          rw [hstr1, hstr2]
          have HS1 := Lib.hid hstr1
          have HS2 := Lib.hid hstr2
          clear hstr1 hstr2 HZ c1 HB HCU HPE HOF HEX
          go_wp2_with (fail)
          go_loopw [14] (fun i wx => ∃ k : Nat, k ≤ 12 ∧ k ≤ n2 ∧ i = .int .i64 k ∧ Hid (FZ SA wb wx d r k)) (fun i _ => 12 - (intOf i).toNat)
          case atStart => exact ⟨0, by omega, by omega, rfl, HZ0⟩
          case round =>
            obtain ⟨k', hk12, hkn2, rfl, HZk⟩ := hrel
            have hbz := HZk.out.base
            by_cases hln2 : k' < n2
            · have hlni2 : (k' : Int) < (n2 : Int) := by omega
              by_cases hlm2 : k' < 12
              · have hlmi2 : (k' : Int) < 12 := by omega
                obtain ⟨ad, rfl, hB, K, T, N, o, old, x, b1, b2, b3, b4, k0, k1, k2, k3, k4, k5⟩ := HEV2.out.below (HBB.out.trans (hbz.mono HBB.out.size)) k' hln2
                have adlt : (ad.add (k' * 6)).block < wb.heap.size := by rw [add_block]; exact Nat.lt_of_lt_of_le hB HBB.out.size
                have HKC : Hid (∀ w', FZ SA wb w' d r (k' + 1) → w'.cell? (ad.add (k' * 6)) = some (.int .i64 K) ∧ w'.cell? ⟨(ad.add (k' * 6)).block, (ad.add (k' * 6)).off + 1, none⟩ = some (.int .i64 T)) := Lib.hid fun w' h => by
                  obtain ⟨ad', e', _, K', T', N', o', old', x', _, _, _, _, j0, j1, _⟩ := HEV2.out.below (HBB.out.trans (h.base.mono HBB.out.size)) k' hln2
                  cases e'
                  have q0 : w'.cell? (ad.add (k' * 6)) = wr.cell? (ad.add (k' * 6)) := (h.base.cell adlt).trans (hbz.cell adlt).symm
                  have q1 : w'.cell? ⟨(ad.add (k' * 6)).block, (ad.add (k' * 6)).off + 1, none⟩ = wr.cell? ⟨(ad.add (k' * 6)).block, (ad.add (k' * 6)).off + 1, none⟩ := (h.base.cell (p := ⟨(ad.add (k' * 6)).block, (ad.add (k' * 6)).off + 1, none⟩) adlt).trans (hbz.cell (p := ⟨(ad.add (k' * 6)).block, (ad.add (k' * 6)).off + 1, none⟩) adlt).symm
                  exact ⟨q0.trans k0, q1.trans k1⟩
                have HDO := Lib.hid (fz_do HZk.out (by omega) K T N o old x b1 b2 b3 b4)
                obtain ⟨kk, hkk⟩ : ∃ kk : Nat, K % 7 = (kk : Int) := ⟨(K % 7).toNat, by omega⟩
                obtain ⟨tt, htt⟩ : ∃ tt : Nat, T % 8 = (tt : Int) := ⟨(T % 8).toNat, by omega⟩
                have htn : (T % 8).toNat = tt := by omega
                have htt8 : tt < 8 := by omega
                rw [hkk, htn] at HDO
                have HKK := Lib.hid hkk
                have HTT := Lib.hid htt
                clear hbz hB hkk htt htn
                by_cases h5 : kk < 5
                · have h5i : (kk : Int) < 5 := by omega
                  go_wp2_with (first
                    | (go_at_call 44; go_must (refine HDO.out.mono ?_); rintro e w3 ⟨bb, rfl, H3⟩; obtain ⟨er, hz3, he3, hc3⟩ := H3.out; have HZ3 := Lib.hid hz3; have HC3 := Lib.hid hc3; obtain ⟨j0, j1⟩ := HKC.out _ hz3; have he4 := he3 h5i; clear hz3 he3 hc3 H3)
                    | (go_at_call 47; refine (mod_any _ _ _ (by decide) (by decide)).mono ?_; rintro e w' ⟨rfl, hw⟩; have hw2 := hw.symm; clear hw; subst hw2; go_must (first | rw [HKK.out] | rw [HTT.out]))
                    | (go_at_call 17; go_must (refine (thread_any _ d tt htt8).mono ?_); rintro e w' ⟨rfl, hw⟩; have hw2 := hw.symm; clear hw; subst hw2)
                    | (go_at_call 40; go_must (refine HC3.out.mono ?_); rintro e w' ⟨rfl, hw⟩; have hw2 := hw.symm; clear hw; subst hw2))
                  go_roundw
                  case rel => exact ⟨k' + 1, by omega, by omega, by go_num, HZ3⟩
                  case measure => simp [intOf]; omega
                · have h5i : ¬ (kk : Int) < 5 := by omega
                  go_wp2_with (first
                    | (go_at_call 44; go_must (refine HDO.out.mono ?_); rintro e w3 ⟨bb, rfl, H3⟩; obtain ⟨er, hz3, he3, hc3⟩ := H3.out; have HZ3 := Lib.hid hz3; have HC3 := Lib.hid hc3; obtain ⟨j0, j1⟩ := HKC.out _ hz3; clear hz3 he3 hc3 H3)
                    | (go_at_call 47; refine (mod_any _ _ _ (by decide) (by decide)).mono ?_; rintro e w' ⟨rfl, hw⟩; have hw2 := hw.symm; clear hw; subst hw2; go_must (first | rw [HKK.out] | rw [HTT.out]))
                    | (go_at_call 17; go_must (refine (thread_any _ d tt htt8).mono ?_); rintro e w' ⟨rfl, hw⟩; have hw2 := hw.symm; clear hw; subst hw2)
                    | (go_at_call 40; go_must (refine HC3.out.mono ?_); rintro e w' ⟨rfl, hw⟩; have hw2 := hw.symm; clear hw; subst hw2))
                  go_roundw
                  case rel => exact ⟨k' + 1, by omega, by omega, by go_num, HZ3⟩
                  case measure => simp [intOf]; omega
              · have hlmi2 : ¬ (k' : Int) < 12 := by omega
                go_wp2_with (first
                  | (go_at_call 27; go_must (refine (HOF2.out _ _ HZk.out).mono ?_); rintro e w' ⟨rfl, hw⟩; have hw2 := hw.symm; clear hw; subst hw2)
                  | (go_at_call 28; go_must (refine (HEX2.out _ _ HZk.out).mono ?_); rintro e w' ⟨rfl, hw⟩; have hw2 := hw.symm; clear hw; subst hw2)
                  | (go_at_call 32; go_must (refine (HCU2.out _ _ HZk.out).mono ?_); rintro e w1 ⟨D1, c1', rfl, b1, a1, K1⟩; have k1 := K1.out w1 (Below.refl _ _); rw [HS1.out] at k1; have HZ1 := Lib.hid (HZk.out.below b1))
                  | (go_at_call 20; go_must (refine (HPE2.out _ _ (by omega) HZ1.out).mono ?_); rintro e w2 ⟨D2, c2', rfl, b2, a2, K2⟩; have k2 := K2.out w2 (Below.refl _ _); rw [HS2.out] at k2; have HZ2 := Lib.hid (HZ1.out.below b2)))
                go_ret
                exact ⟨rfl, HBB.out.trans (HZ2.out.base.mono HBB.out.size)⟩
            · have hlni2 : ¬ (k' : Int) < (n2 : Int) := by omega
              go_wp2_with (first
                | (go_at_call 27; go_must (refine (HOF2.out _ _ HZk.out).mono ?_); rintro e w' ⟨rfl, hw⟩; have hw2 := hw.symm; clear hw; subst hw2)
                | (go_at_call 28; go_must (refine (HEX2.out _ _ HZk.out).mono ?_); rintro e w' ⟨rfl, hw⟩; have hw2 := hw.symm; clear hw; subst hw2)
                | (go_at_call 32; go_must (refine (HCU2.out _ _ HZk.out).mono ?_); rintro e w1 ⟨D1, c1', rfl, b1, a1, K1⟩; have k1 := K1.out w1 (Below.refl _ _); rw [HS1.out] at k1; have HZ1 := Lib.hid (HZk.out.below b1))
                | (go_at_call 20; go_must (refine (HPE2.out _ _ (by omega) HZ1.out).mono ?_); rintro e w2 ⟨D2, c2', rfl, b2, a2, K2⟩; have k2 := K2.out w2 (Below.refl _ _); rw [HS2.out] at k2; have HZ2 := Lib.hid (HZ1.out.below b2)))
              go_ret
              exact ⟨rfl, HBB.out.trans (HZ2.out.base.mono HBB.out.size)⟩
      · have hoff2 : SA.off = false := by cases ho : SA.off with | false => rfl | true => exact absurd ho hoff
        have HOF : Hid (∀ w, BothF wb w d r SA SR → Calls Try.prog 27 #[.pointer (some ⟨d, 0, none⟩)] w fun q w' => q = .returned (.bool false) ∧ w' = w) := Lib.hid fun w h => by
          have := bk_off h
          rw [hoff2] at this
          exact this
        have HBE := Lib.hid HF.out.base
        clear hbf hoA hoR har hex hoff hoff2 HF
        go_wp2_with (first
          | (go_at_call 28; go_must (refine (HEX.out _ HB.out).mono ?_); rintro e w' ⟨rfl, hw⟩; have hw2 := hw.symm; clear hw; subst hw2)
          | (go_at_call 27; go_must (refine (HOF.out _ HB.out).mono ?_); rintro e w' ⟨rfl, hw⟩; have hw2 := hw.symm; clear hw; subst hw2))
        go_ret
        exact ⟨rfl, HBB.out.trans (HBE.out.mono HBB.out.size)⟩
end Go.Proofs.Ytbonponclcehiaa.Dev
namespace Go.Proofs.Ytbonponclcehiaa.deviceFails
open Go.ChangeShapes Go.WideShapes Go.ChangeAt Go.RowKit Go.Proofs.Ytbonponclcehiaa.Law Go.Proofs.Ytbonponclcehiaa.Args
set_option linter.unusedVariables false
set_option linter.unusedSimpArgs false
open Go.Proofs.Ytbonponclcehiaa.Mem Go.Proofs.Ytbonponclcehiaa.Own Go.Proofs.Ytbonponclcehiaa.Dev
theorem walk (W : World) (L : Int) (E : Option Addr) (n c : Nat) (hE : EvsAt W W.heap.size E n) (hn : n ≤ maxLen) (nn : Int) (_ : (Lit.int .i64 nn).wf = true) (E2 : Option Addr) (n2 c2 : Nat) (hE2 : EvsAt W W.heap.size E2 n2) (hn2 : n2 ≤ maxLen) :
    Calls Try.prog 10 #[.agg #[.int .i64 L, .slice E n c], .int .i64 nn, .slice E2 n2 c2] W fun e W' => e = .returned (.bool true) ∧ Below W.heap.size W W' := fails_walk W L nn E n c E2 n2 c2 hE hn hE2 hn2

/-! ### the frame -/
theorem own : ownKnob Try.prog.godebug = none := by kernel_rfl
set_option maxRecDepth 100000 in
theorem calls {H : Type} {enc : TypeId × Value → H} (W : World) (base : Nat) (args : Array Value) (ds : List (DataW H)) (p : List MemPlace)
    (hval0 : ∀ (j : Nat) t v, Try.f10.params[j]? = some t → args[j]? = some v → Value.okWide Try.prog W .any base t v)
    (hA : DataW.TrodAll enc Try.prog W 0 (fun _ => true) true Try.f10.params.toList args.toList ds p) (_ : W.noneFrozen p)
    (hsz : (DataW.weightsEach Try.prog Try.f10.params.toList ds).all (· ≤ reachBytes) = true) :
    Calls Try.prog 10 args W fun e W' => e = .returned (.bool true) ∧ Below W.heap.size W W' := by
  have hval : ∀ (j : Nat) t v, Try.f10.params[j]? = some t → args[j]? = some v → Value.okWide Try.prog W .any base t v := hval0
  clear hval0
  rw [Try.params10] at hA hval hsz
  obtain ⟨v0, vs0, d0, ds0, p0, q0, hargs, rfl, rfl, h0, r'0⟩ := trodAll_cons hA
  obtain ⟨v1, vs1, d1, ds1, p1, q1, rfl, rfl, rfl, h1, r'1⟩ := trodAll_cons r'0
  obtain ⟨v2, vs2, d2, ds2, p2, q2, rfl, rfl, rfl, h2, r'2⟩ := trodAll_cons r'1
  obtain ⟨rfl, rfl, rfl⟩ := trodAll_nil r'2
  obtain rfl : args = #[v0, v1, v2] := by cases args; simp_all
  obtain ⟨L0, E0, n0, c0, rfl, hn0, hE0⟩ := open_run (hval 0 57 v0 rfl rfl) h0
  obtain ⟨a1, rfl, rfl, rfl, w1⟩ := open_int Try.underlying3 (hval 1 3 v1 rfl rfl) h1
  obtain ⟨E2, n2, c2, rfl, hn2, hE2⟩ := open_evs (hval 2 55 v2 rfl rfl) h2
  exact walk (W := W) L0 E0 n0 c0 hE0 hn0 a1 w1 E2 n2 c2 hE2 hn2
set_option maxRecDepth 100000 in
theorem lifted (os : Os) (started : os.Started) (H : Type) (enc : TypeId × Value → H) :
    ReturnsInHanded {} Try.checked os 10 .any (Rows.deviceFailsSpec.pre6 enc Try.prog Try.f10 Rows.deviceFailsRow.domain false) (Rows.deviceFailsSpec.post enc Try.prog Try.f10 false true false false) :=
  law_lifted (C := Try.checked) (s := Rows.deviceFailsSpec) (b := 4) own (by kernel_rfl) Try.func10 (by kernel_rfl) (by kernel_rfl) rfl Try.underlying4 rfl
    (fun ds h => by match ds, h with | [_, _, _], _ => rfl) calls os started
    (ChangeSpec.witness6 (enc := enc) (C := Try.checked) false ⟨#[], #[.agg #[.int .i64 0, .slice none 0 0], .int .i64 0, .slice none 0 0], []⟩ 8 (by kernel_rfl) (by kernel_rfl) (by kernel_rfl) (by kernel_rfl))
/-- ████ THE STATEMENT ████ -/
theorem proved : Rows.DeviceFailsSaid :=
  OpenClaim.holds_of_wide 10 Try.f10 rfl rfl rfl rfl rfl rfl rfl ⟨rfl, rfl, rfl, rfl, rfl⟩ rfl rfl rfl rfl rfl (by kernel_rfl) Try.func10 (by kernel_rfl)
    (of_decide_eq_true (by kernel_rfl)) (by unfold Func.isWrapper; first | (rw [if_pos (by decide +kernel)]; kernel_rfl) | (rw [if_neg (by decide +kernel)]; exact ⟨rfl, rfl⟩))
    (fun os started H enc _ => lifted os started H enc)
#print axioms proved
end Go.Proofs.Ytbonponclcehiaa.deviceFails
