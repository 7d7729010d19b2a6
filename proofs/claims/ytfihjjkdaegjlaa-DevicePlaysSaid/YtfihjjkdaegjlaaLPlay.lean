/-
  THE LAWS' Play: at most n events of a run on both.
-/
import Derived.Test.YtfihjjkdaegjlaaLBegin
import Derived.Test.YtfihjjkdaegjlaaLSame
namespace Go.Proofs.Ytfihjjkdaegjlaa.Dev
open Go.ChangeShapes Go.WideShapes Go.ChangeAt Go.RowKit Go.Proofs.Ytfihjjkdaegjlaa.Mem Go.Proofs.Ytfihjjkdaegjlaa.Args Go.Proofs.Ytfihjjkdaegjlaa.Own
/-- The j-th event of a slice of events, wherever it lies. -/
def EvsAt (w : World) (B : Nat) (E : Option Addr) (n : Nat) : Prop :=
  ∀ j, j < n → ∃ ad, E = some ad ∧ ad.block < B ∧ ∃ (K T N : Int) (o old x : Nat), o < 18446744073709551616 ∧ x < 18446744073709551616 ∧ -9223372036854775808 ≤ N ∧ N ≤ 9223372036854775807 ∧
    w.cell? (ad.add (j * 6)) = some (.int .i64 K) ∧ w.cell? ⟨(ad.add (j * 6)).block, (ad.add (j * 6)).off + 1, none⟩ = some (.int .i64 T) ∧ w.cell? ⟨(ad.add (j * 6)).block, (ad.add (j * 6)).off + 2, none⟩ = some (.int .u64 (o : Int)) ∧ w.cell? ⟨(ad.add (j * 6)).block, (ad.add (j * 6)).off + 3, none⟩ = some (.int .u64 (old : Int)) ∧ w.cell? ⟨(ad.add (j * 6)).block, (ad.add (j * 6)).off + 4, none⟩ = some (.int .u64 (x : Int)) ∧ w.cell? ⟨(ad.add (j * 6)).block, (ad.add (j * 6)).off + 5, none⟩ = some (.int .i64 N)
theorem EvsAt.below {w w' : World} {B n : Nat} {E : Option Addr} (h : EvsAt w B E n) (hb : Below B w w') : EvsAt w' B E n := fun j hj => by
  obtain ⟨ad, e, hB, K, T, N, o, old, x, b1, b2, b3, b4, k0, k1, k2, k3, k4, k5⟩ := h j hj
  have hc : ∀ i, w'.cell? ⟨(ad.add (j * 6)).block, (ad.add (j * 6)).off + i, none⟩ = w.cell? ⟨(ad.add (j * 6)).block, (ad.add (j * 6)).off + i, none⟩ := fun i => hb.cell (by show (ad.add (j * 6)).block < B; rw [add_block]; exact hB)
  have h0 : w'.cell? (ad.add (j * 6)) = w.cell? (ad.add (j * 6)) := hb.cell (by rw [add_block]; exact hB)
  exact ⟨ad, e, hB, K, T, N, o, old, x, b1, b2, b3, b4, by rw [h0]; exact k0, by rw [hc]; exact k1, by rw [hc]; exact k2, by rw [hc]; exact k3, by rw [hc]; exact k4, by rw [hc]; exact k5⟩
theorem Both.below {w0 w : World} {d r : Nat} {S : St} (h : Both w0 w d r S) : Below w0.heap.size w0 w := by
  obtain ⟨_, _, _, _, _, _, hb⟩ := h; exact hb
theorem Both.same {w0 w : World} {d r M : Nat} {S : St} (h : Both w0 w d r S) (hS : S.Ok M) (hM : M ≤ 1000000) :
    Calls Try.prog 15 #[.pointer (some ⟨d, 0, none⟩), .pointer (some ⟨r, 0, none⟩)] w fun q w' => q = .returned (.bool true) ∧ Hid (Both w0 w' d r S) := by
  obtain ⟨A, R, h1, h2, hd, hr, hb⟩ := h
  subst h1 h2
  refine (same_any w _ M A R S hd hr hS hM).mono ?_
  rintro q w' ⟨e, H⟩
  exact ⟨e, Lib.hid ⟨A, R, rfl, rfl, hd.below H.out (Nat.le_refl _), hr.below H.out (Nat.le_refl _), hb.trans (H.out.mono hb.size)⟩⟩
/-- What Play keeps: both, in one state, after k events. -/
def Run (w0 w : World) (d r k : Nat) : Prop := ∃ S : St, Both w0 w d r S ∧ S.Ok (2 * k)
set_option maxRecDepth 100000 in
set_option maxHeartbeats 1000000 in
theorem play_any (w : World) (L : Int) (E : Option Addr) (n c m : Nat) (hm : m ≤ 1000) (hE : EvsAt w w.heap.size E n) (hn : n ≤ maxLen) :
    Calls Try.prog 41 #[.agg #[.int .i64 L, .slice E n c], .int .i64 (m : Int)] w fun q w' => ∃ d r k w0, q = .returned (.tuple #[.pointer (some ⟨d, 0, none⟩), .pointer (some ⟨r, 0, none⟩)]) ∧ Hid (Run w0 w' d r k ∧ k ≤ m ∧ Below w.heap.size w w') := by
  have HEV := Lib.hid hE
  have HBE := Lib.hid (fun w => begin_any w L)
  obtain ⟨wb, hwb⟩ : ∃ wb, w.alloc (.cells #[.int .i64 L, .slice E n c] 57) = wb := ⟨_, rfl⟩
  have hb0 : wb.cell? ⟨w.heap.size, 0, none⟩ = some (.int .i64 L) := by rw [← hwb]; exact (Blk.new w _ _).cell (o := 0) (by show 0 < 2; omega)
  have hb1 : wb.cell? ⟨w.heap.size, 1, none⟩ = some (.slice E n c) := by rw [← hwb]; exact (Blk.new w _ _).cell (o := 1) (by show 1 < 2; omega)
  have HBB : Hid (Below w.heap.size w wb) := by rw [← hwb]; exact (Below.refl _ _).alloc (Nat.le_refl _) _
  have HWB := Lib.hid hwb
  clear hE hwb
  go_enter Try.func41, Try.ntmps41
  go_wp2_with (fail)
  rw [HWB.out]
  refine (HBE.out _).mono ?_
  rintro e w1 ⟨d, r, rfl, H1⟩
  have HR0 : Hid (Run wb w1 d r 0) := Lib.hid (by
    obtain ⟨n0, a1, a2, hbo⟩ := H1.out
    exact ⟨_, hbo, St.new_ok n0 a2 (by omega)⟩)
  have HS0 : Hid (Calls Try.prog 15 #[.pointer (some ⟨d, 0, none⟩), .pointer (some ⟨r, 0, none⟩)] w1 fun q w' => q = .returned (.bool true) ∧ Hid (Run wb w' d r 0)) := Lib.hid (by
    obtain ⟨S, hbo, hok⟩ := HR0.out
    refine (Both.same hbo hok (by omega)).mono ?_
    rintro q w' ⟨e, H⟩
    exact ⟨e, Lib.hid ⟨S, H.out, hok⟩⟩)
  go_wp2_with (go_at_call 15; go_must (refine HS0.out.mono ?_); rintro e w2 ⟨rfl, H2⟩)
  have hbw : ∀ (w' : World) (k : Nat), Run wb w' d r k → Below wb.heap.size wb w' := fun w' k h => by
    obtain ⟨S, hbo, _⟩ := h; exact hbo.below
  have HBW := Lib.hid hbw
  have hmi : (m : Int) ≤ 1000 := by omega
  clear hbw HBE HS0 HR0 H1
  go_loopw [8] (fun i wr => ∃ k : Nat, k ≤ m ∧ k ≤ n ∧ i = .int .i64 k ∧ Hid (Run wb wr d r k)) (fun i _ => m - (intOf i).toNat)
  case atStart => exact ⟨0, by omega, by omega, rfl, H2⟩
  case round =>
    obtain ⟨k, hkm, hkn, rfl, HRk⟩ := hrel
    have hbk := HBW.out _ _ HRk.out
    have c1 : wr.cell? ⟨w.heap.size, 1, none⟩ = some (.slice E n c) := (hbk.cell (p := ⟨w.heap.size, 1, none⟩) (cell_lt hb1)).trans hb1
    by_cases hln : k < n
    · have hlni : (k : Int) < (n : Int) := by omega
      by_cases hlm : k < m
      · have hlmi : (k : Int) < (m : Int) := by omega
        obtain ⟨ad, rfl, hB, K, T, N, o, old, x, b1, b2, b3, b4, k0, k1, k2, k3, k4, k5⟩ := HEV.out.below (HBB.out.trans (hbk.mono HBB.out.size)) k hln
        have HDO : Hid (Calls Try.prog 44 #[.pointer (some ⟨d, 0, none⟩), .pointer (some ⟨r, 0, none⟩), .agg #[.int .i64 K, .int .i64 T, .int .u64 (o : Int), .int .u64 (old : Int), .int .u64 (x : Int), .int .i64 N]] wr fun q w' => q = .returned (.bool true) ∧ Hid (Run wb w' d r (k + 1))) := Lib.hid (by
          obtain ⟨S, hbo, hok⟩ := HRk.out
          refine (do_any wb wr d r (2 * k) S K T N o old x hbo hok (by omega) b1 b2 b3 b4).mono ?_
          rintro q w' ⟨S', e, H⟩
          exact ⟨e, Lib.hid ⟨S', H.out.1, H.out.2.1⟩⟩)
        have HSA : Hid (∀ w3, Run wb w3 d r (k + 1) → Calls Try.prog 15 #[.pointer (some ⟨d, 0, none⟩), .pointer (some ⟨r, 0, none⟩)] w3 fun q w' => q = .returned (.bool true) ∧ Hid (Run wb w' d r (k + 1))) := Lib.hid fun w3 h3 => by
          obtain ⟨S, hbo, hok⟩ := h3
          refine (Both.same hbo hok (by omega)).mono ?_
          rintro q w' ⟨e, H⟩
          exact ⟨e, Lib.hid ⟨S, H.out, hok⟩⟩
        clear hbk hB
        go_wp2_with (first
          | (go_at_call 44; go_must (refine HDO.out.mono ?_); rintro e w3 ⟨rfl, H3⟩)
          | (go_at_call 15; go_must (refine (HSA.out _ H3.out).mono ?_); rintro e w4 ⟨rfl, H4⟩))
        go_roundw
        case rel => exact ⟨k + 1, by omega, by omega, by go_num, H4⟩
        case measure => simp [intOf]; omega
      · have hlmi : ¬ (k : Int) < (m : Int) := by omega
        go_wp2
        go_ret2
        exact ⟨d, r, rfl, k, wb, Lib.hid ⟨HRk.out, hkm, HBB.out.trans (hbk.mono HBB.out.size)⟩⟩
    · have hlni : ¬ (k : Int) < (n : Int) := by omega
      go_wp2
      go_ret2
      exact ⟨d, r, rfl, k, wb, Lib.hid ⟨HRk.out, hkm, HBB.out.trans (hbk.mono HBB.out.size)⟩⟩
end Go.Proofs.Ytfihjjkdaegjlaa.Dev
