/-
  JOINED TEXTS: LBegin LPlay LOpen LOpen2 DAwake.
-/
import Derived.Test.YtmipodnfkilcfaaLDo
import Derived.Test.YtmipodnfkilcfaaRNew
import Derived.Test.YtmipodnfkilcfaaLSame
import Derived.Test.YtmipodnfkilcfaaLaw
import Derived.Test.YtmipodnfkilcfaaDOk
import Derived.Test.YtmipodnfkilcfaaDImage
set_option linter.unusedVariables false
set_option linter.unusedSimpArgs false
/-
  THE LAWS' Begin: both, new.
-/
set_option linter.unusedVariables false
set_option linter.unusedSimpArgs false
namespace Go.Proofs.Ytmipodnfkilcfaa.Dev
open Go.ChangeShapes Go.WideShapes Go.ChangeAt Go.RowKit Go.Proofs.Ytmipodnfkilcfaa.Mem Go.Proofs.Ytmipodnfkilcfaa.Args Go.Proofs.Ytmipodnfkilcfaa.Own
theorem IsRef.mono {w : World} {base b : Nat} {R : RAdr} {S : St} (h : IsRef w base R S) (hb : b ≤ base) : IsRef w b R S :=
  { h with
    hist := fun i hi => ⟨(h.hist i hi).1.mono hb, (h.hist i hi).2⟩
    notes := fun t ht => ⟨(h.notes t ht).1.mono hb, (h.notes t ht).2⟩
    bd := Nat.le_trans hb h.bd
    bl := Nat.le_trans hb h.bl }
set_option maxRecDepth 100000 in
theorem begin_any (w : World) (L : Int) :
    Calls Try.prog 10 #[.int .i64 L] w fun q w' => ∃ d r : Nat, q = .returned (.tuple #[.pointer (some ⟨d, 0, none⟩), .pointer (some ⟨r, 0, none⟩)]) ∧ Hid (∃ n, n ≤ 6 ∧ 1 ≤ n ∧ Both w w' d r (St.new n)) := by
  obtain ⟨k, hk⟩ : ∃ k : Nat, L % 6 = (k : Int) := ⟨(L % 6).toNat, by omega⟩
  have hk6 : k < 6 := by omega
  have HK := Lib.hid hk
  have hw1 : IntKind.i64.wrap (1 + (k : Int)) = 1 + (k : Int) := IntWalk.i64_in _ (by omega)
  have HN : Hid (∀ w, Calls Try.prog 11 #[.int .i64 (1 + (k : Int))] w fun e w' => ∃ A : Adr, e = .returned (.tuple #[.pointer (some ⟨A.d, 0, none⟩), .int .i64 0]) ∧ Hid (IsDev w' w.heap.size A (St.new (k + 1)) ∧ Below w.heap.size w w')) := Lib.hid fun w => by
    have := new_any w (k + 1) (by omega) (by omega)
    rw [show ((k + 1 : Nat) : Int) = 1 + (k : Int) by omega] at this
    exact this
  have HRN : Hid (∀ w, Calls Try.prog 47 #[.int .i64 (1 + (k : Int))] w fun e w' => ∃ A : RAdr, e = .returned (.pointer (some ⟨A.d, 0, none⟩)) ∧ Hid (IsRef w' w.heap.size A (St.new (k + 1)) ∧ Below w.heap.size w w')) := Lib.hid fun w => by
    have := rnew_any w (k + 1) (by omega) (by omega)
    rw [show ((k + 1 : Nat) : Int) = 1 + (k : Int) by omega] at this
    exact this
  clear hk
  go_enter Try.func10, Try.ntmps10
  go_wp2_with (first
    | (go_at_call 34; refine (mod_any _ _ _ (by decide) (by decide)).mono ?_; rintro e w' ⟨rfl, hw⟩; have hw2 := hw.symm; clear hw; subst hw2; go_must (rw [HK.out]))
    | (go_at_call 11; go_must (refine (HN.out _).mono ?_); rintro e w1 ⟨A, rfl, H1⟩)
    | (go_at_call 47; go_must (refine (HRN.out _).mono ?_); rintro e w2 ⟨R, rfl, H2⟩))
  go_ret2
  exact ⟨A.d, R.d, rfl, Lib.hid ⟨k + 1, by omega, by omega, A, R, rfl, rfl, H1.out.1.below H2.out.2 (Nat.le_refl _), H2.out.1.mono H1.out.2.size, H1.out.2.trans (H2.out.2.mono H1.out.2.size)⟩⟩
end Go.Proofs.Ytmipodnfkilcfaa.Dev
/-
  THE LAWS' Play: at most n events of a run on both.
-/
set_option linter.unusedVariables false
set_option linter.unusedSimpArgs false
namespace Go.Proofs.Ytmipodnfkilcfaa.Dev
open Go.ChangeShapes Go.WideShapes Go.ChangeAt Go.RowKit Go.Proofs.Ytmipodnfkilcfaa.Mem Go.Proofs.Ytmipodnfkilcfaa.Args Go.Proofs.Ytmipodnfkilcfaa.Own
/-- The j-th event of a slice of events, wherever it lies. -/
def EvsAt (w : World) (B : Nat) (E : Option Addr) (n : Nat) : Prop :=
  ∀ j, j < n → ∃ ad, E = some ad ∧ ad.block < B ∧ ∃ (K T N : Int) (o old x : Nat), o < 18446744073709551616 ∧ x < 18446744073709551616 ∧ -9223372036854775808 ≤ N ∧ N ≤ 9223372036854775807 ∧
    w.cell? (ad.add (j * 6)) = some (.int .i64 K) ∧ w.cell? ⟨(ad.add (j * 6)).block, (ad.add (j * 6)).off + 1, none⟩ = some (.int .i64 T) ∧ w.cell? ⟨(ad.add (j * 6)).block, (ad.add (j * 6)).off + 2, none⟩ = some (.int .u64 (o : Int)) ∧ w.cell? ⟨(ad.add (j * 6)).block, (ad.add (j * 6)).off + 3, none⟩ = some (.int .u64 (old : Int)) ∧ w.cell? ⟨(ad.add (j * 6)).block, (ad.add (j * 6)).off + 4, none⟩ = some (.int .u64 (x : Int)) ∧ w.cell? ⟨(ad.add (j * 6)).block, (ad.add (j * 6)).off + 5, none⟩ = some (.int .i64 N)
theorem EvsAt.below {w w' : World} {B n : Nat} {E : Option Addr} (h : EvsAt w B E n) (hb : Below B w w') : EvsAt w' B E n := fun j hj => by
  obtain ⟨ad, e, hB, K, T, N, o, old, x, b1, b2, b3, b4, k0, k1, k2, k3, k4, k5⟩ := h j hj
  have hc : ∀ i, w'.cell? ⟨(ad.add (j * 6)).block, (ad.add (j * 6)).off + i, none⟩ = w.cell? ⟨(ad.add (j * 6)).block, (ad.add (j * 6)).off + i, none⟩ := fun i => hb.cell (by show (ad.add (j * 6)).block < B; rw [add_block]; exact hB)
  have h0 : w'.cell? (ad.add (j * 6)) = w.cell? (ad.add (j * 6)) := hb.cell (by rw [add_block]; exact hB)
  exact ⟨ad, e, hB, K, T, N, o, old, x, b1, b2, b3, b4, by rw [h0]; exact k0, by rw [hc]; exact k1, by rw [hc]; exact k2, by rw [hc]; exact k3, by rw [hc]; exact k4, by rw [hc]; exact k5⟩
theorem Both.below {w0 w : World} {d r : Nat} {S : St} (h : Both w0 w d r S) : Below w0.heap.size w0 w := by
  obtain ⟨_, _, _, _, _, _, hb⟩ := h; exact hb
theorem Both.same {w0 w : World} {d r M : Nat} {S : St} (h : Both w0 w d r S) (hS : S.Ok M) (hM : M ≤ 1000000) :
    Calls Try.prog 8 #[.pointer (some ⟨d, 0, none⟩), .pointer (some ⟨r, 0, none⟩)] w fun q w' => q = .returned (.bool true) ∧ Hid (Both w0 w' d r S) := by
  obtain ⟨A, R, h1, h2, hd, hr, hb⟩ := h
  subst h1 h2
  refine (same_any w _ M A R S hd hr hS hM).mono ?_
  rintro q w' ⟨e, H⟩
  exact ⟨e, Lib.hid ⟨A, R, rfl, rfl, hd.below H.out (Nat.le_refl _), hr.below H.out (Nat.le_refl _), hb.trans (H.out.mono hb.size)⟩⟩
/-- What Play keeps: both, in one state, after k events. -/
def Run (w0 w : World) (d r k : Nat) : Prop := ∃ S : St, Both w0 w d r S ∧ S.Ok (2 * k)
set_option maxRecDepth 100000 in
set_option maxHeartbeats 1000000 in
theorem play_any (w : World) (L : Int) (E : Option Addr) (n c m : Nat) (hm : m ≤ 1000) (hE : EvsAt w w.heap.size E n) (hn : n ≤ maxLen) :
    Calls Try.prog 4 #[.agg #[.int .i64 L, .slice E n c], .int .i64 (m : Int)] w fun q w' => ∃ d r k w0, q = .returned (.tuple #[.pointer (some ⟨d, 0, none⟩), .pointer (some ⟨r, 0, none⟩)]) ∧ Hid (Run w0 w' d r k ∧ k ≤ m ∧ Below w.heap.size w w' ∧ Below w.heap.size w w0) := by
  have HEV := Lib.hid hE
  have HBE := Lib.hid (fun w => begin_any w L)
  obtain ⟨wb, hwb⟩ : ∃ wb, w.alloc (.cells #[.int .i64 L, .slice E n c] 24) = wb := ⟨_, rfl⟩
  have hb0 : wb.cell? ⟨w.heap.size, 0, none⟩ = some (.int .i64 L) := by rw [← hwb]; exact (Blk.new w _ _).cell (o := 0) (by show 0 < 2; omega)
  have hb1 : wb.cell? ⟨w.heap.size, 1, none⟩ = some (.slice E n c) := by rw [← hwb]; exact (Blk.new w _ _).cell (o := 1) (by show 1 < 2; omega)
  have HBB : Hid (Below w.heap.size w wb) := by rw [← hwb]; exact (Below.refl _ _).alloc (Nat.le_refl _) _
  have HWB := Lib.hid hwb
  clear hE hwb
  go_enter Try.func4, Try.ntmps4
  go_wp2_with (fail)
  rw [HWB.out]
  refine (HBE.out _).mono ?_
  rintro e w1 ⟨d, r, rfl, H1⟩
  have HR0 : Hid (Run wb w1 d r 0) := Lib.hid (by
    obtain ⟨n0, a1, a2, hbo⟩ := H1.out
    exact ⟨_, hbo, St.new_ok n0 a2 (by omega)⟩)
  have HS0 : Hid (Calls Try.prog 8 #[.pointer (some ⟨d, 0, none⟩), .pointer (some ⟨r, 0, none⟩)] w1 fun q w' => q = .returned (.bool true) ∧ Hid (Run wb w' d r 0)) := Lib.hid (by
    obtain ⟨S, hbo, hok⟩ := HR0.out
    refine (Both.same hbo hok (by omega)).mono ?_
    rintro q w' ⟨e, H⟩
    exact ⟨e, Lib.hid ⟨S, H.out, hok⟩⟩)
  go_wp2_with (go_at_call 8; go_must (refine HS0.out.mono ?_); rintro e w2 ⟨rfl, H2⟩)
  have hbw : ∀ (w' : World) (k : Nat), Run wb w' d r k → Below wb.heap.size wb w' := fun w' k h => by
    obtain ⟨S, hbo, _⟩ := h; exact hbo.below
  have HBW := Lib.hid hbw
  have hmi : (m : Int) ≤ 1000 := by omega
  clear hbw HBE HS0 HR0 H1
  go_loopw [8] (fun i wr => ∃ k : Nat, k ≤ m ∧ k ≤ n ∧ i = .int .i64 k ∧ Hid (Run wb wr d r k)) (fun i _ => m - (intOf i).toNat)
  case atStart => exact ⟨0, by omega, by omega, rfl, H2⟩
  case round =>
    obtain ⟨k, hkm, hkn, rfl, HRk⟩ := hrel
    have hbk := HBW.out _ _ HRk.out
    have c1 : wr.cell? ⟨w.heap.size, 1, none⟩ = some (.slice E n c) := (hbk.cell (p := ⟨w.heap.size, 1, none⟩) (cell_lt hb1)).trans hb1
    by_cases hln : k < n
    · have hlni : (k : Int) < (n : Int) := by omega
      by_cases hlm : k < m
      · have hlmi : (k : Int) < (m : Int) := by omega
        obtain ⟨ad, rfl, hB, K, T, N, o, old, x, b1, b2, b3, b4, k0, k1, k2, k3, k4, k5⟩ := HEV.out.below (HBB.out.trans (hbk.mono HBB.out.size)) k hln
        have HDO : Hid (Calls Try.prog 9 #[.pointer (some ⟨d, 0, none⟩), .pointer (some ⟨r, 0, none⟩), .agg #[.int .i64 K, .int .i64 T, .int .u64 (o : Int), .int .u64 (old : Int), .int .u64 (x : Int), .int .i64 N]] wr fun q w' => q = .returned (.bool true) ∧ Hid (Run wb w' d r (k + 1))) := Lib.hid (by
          obtain ⟨S, hbo, hok⟩ := HRk.out
          refine (do_any wb wr d r (2 * k) S K T N o old x hbo hok (by omega) b1 b2 b3 b4).mono ?_
          rintro q w' ⟨S', e, H⟩
          exact ⟨e, Lib.hid ⟨S', H.out.1, H.out.2.1⟩⟩)
        have HSA : Hid (∀ w3, Run wb w3 d r (k + 1) → Calls Try.prog 8 #[.pointer (some ⟨d, 0, none⟩), .pointer (some ⟨r, 0, none⟩)] w3 fun q w' => q = .returned (.bool true) ∧ Hid (Run wb w' d r (k + 1))) := Lib.hid fun w3 h3 => by
          obtain ⟨S, hbo, hok⟩ := h3
          refine (Both.same hbo hok (by omega)).mono ?_
          rintro q w' ⟨e, H⟩
          exact ⟨e, Lib.hid ⟨S, H.out, hok⟩⟩
        clear hbk hB
        go_wp2_with (first
          | (go_at_call 9; go_must (refine HDO.out.mono ?_); rintro e w3 ⟨rfl, H3⟩)
          | (go_at_call 8; go_must (refine (HSA.out _ H3.out).mono ?_); rintro e w4 ⟨rfl, H4⟩))
        go_roundw
        case rel => exact ⟨k + 1, by omega, by omega, by go_num, H4⟩
        case measure => simp [intOf]; omega
      · have hlmi : ¬ (k : Int) < (m : Int) := by omega
        go_wp2
        go_ret2
        exact ⟨d, r, rfl, k, wb, Lib.hid ⟨HRk.out, hkm, HBB.out.trans (hbk.mono HBB.out.size), HBB.out⟩⟩
    · have hlni : ¬ (k : Int) < (n : Int) := by omega
      go_wp2
      go_ret2
      exact ⟨d, r, rfl, k, wb, Lib.hid ⟨HRk.out, hkm, HBB.out.trans (hbk.mono HBB.out.size), HBB.out⟩⟩
end Go.Proofs.Ytmipodnfkilcfaa.Dev
/-
  THE ARGUMENT Run: an event's cells.
-/
set_option linter.unusedVariables false
set_option linter.unusedSimpArgs false
namespace Go.Proofs.Ytmipodnfkilcfaa.Dev
open Go.ChangeShapes Go.WideShapes Go.ChangeAt Go.RowKit Go.Proofs.Ytmipodnfkilcfaa.Mem Go.Proofs.Ytmipodnfkilcfaa.Args Go.Proofs.Ytmipodnfkilcfaa.Own
theorem wf_u64 {n : Int} (h : (Lit.int .u64 n).wf = true) : 0 ≤ n ∧ n ≤ 18446744073709551615 := by
  simpa [Lit.wf, IntKind.min, IntKind.max, IntKind.bits, IntKind.signed] using h
theorem wf_i64 {n : Int} (h : (Lit.int .i64 n).wf = true) : -9223372036854775808 ≤ n ∧ n ≤ 9223372036854775807 := by
  simpa [Lit.wf, IntKind.min, IntKind.max, IntKind.bits, IntKind.signed] using h
theorem list6 {α : Type} (l : List α) (h : l.length = 6) : ∃ a b c d e f, l = [a, b, c, d, e, f] := by
  match l, h with
  | [a, b, c, d, e, f], _ => exact ⟨a, b, c, d, e, f, rfl⟩
set_option maxRecDepth 10000 in
theorem open_ev {H : Type} {enc : TypeId × Value → H} {w : World} {base : Nat} {spare : Nat → Bool} {held : Bool} {fuel : Nat} {cs : List Value} {x : DataW H × List MemPlace} (h : DataW.trod enc Try.prog w base spare held fuel 36 cs = some x) :
    ∃ K T o old xx N : Int, cs = [.int .i64 K, .int .i64 T, .int .u64 o, .int .u64 old, .int .u64 xx, .int .i64 N] ∧ (Lit.int .u64 o).wf = true ∧ (Lit.int .u64 old).wf = true ∧ (Lit.int .u64 xx).wf = true ∧ (Lit.int .i64 N).wf = true := by
  obtain ⟨xs, n, _, rfl, hl, hlen, hf⟩ := DataW.trod_struct Try.underlying36 h
  have hl6 : cs.length = 6 := hl.trans (by kernel_rfl)
  have hi : Try.prog.cellsOf 3 = 1 := by kernel_rfl
  have hu : Try.prog.cellsOf 34 = 1 := by kernel_rfl
  have hx6 : xs.length = 6 := hlen
  obtain ⟨c0, c1, c2, c3, c4, c5, rfl⟩ := list6 cs hl6
  obtain ⟨y0, y1, y2, y3, y4, y5, rfl⟩ := list6 xs hx6
  clear hl hlen hl6 hx6
  have h0 : DataW.trod enc Try.prog w base spare held n 3 (List.take (Try.prog.cellsOf 3) (List.drop 0 [c0, c1, c2, c3, c4, c5])) = some y0 := hf 0 _ rfl
  rw [hi] at h0
  have h1 : DataW.trod enc Try.prog w base spare held n 3 (List.take (Try.prog.cellsOf 3) (List.drop 1 [c0, c1, c2, c3, c4, c5])) = some y1 := hf 1 _ rfl
  rw [hi] at h1
  have h2 : DataW.trod enc Try.prog w base spare held n 34 (List.take (Try.prog.cellsOf 34) (List.drop 2 [c0, c1, c2, c3, c4, c5])) = some y2 := hf 2 _ rfl
  rw [hu] at h2
  have h3 : DataW.trod enc Try.prog w base spare held n 34 (List.take (Try.prog.cellsOf 34) (List.drop 3 [c0, c1, c2, c3, c4, c5])) = some y3 := hf 3 _ rfl
  rw [hu] at h3
  have h4 : DataW.trod enc Try.prog w base spare held n 34 (List.take (Try.prog.cellsOf 34) (List.drop 4 [c0, c1, c2, c3, c4, c5])) = some y4 := hf 4 _ rfl
  rw [hu] at h4
  have h5 : DataW.trod enc Try.prog w base spare held n 3 (List.take (Try.prog.cellsOf 3) (List.drop 5 [c0, c1, c2, c3, c4, c5])) = some y5 := hf 5 _ rfl
  rw [hi] at h5
  obtain ⟨K, e0, _, w0⟩ := DataW.trod_int Try.underlying3 h0
  obtain ⟨T, e1, _, w1⟩ := DataW.trod_int Try.underlying3 h1
  obtain ⟨o, e2, _, w2⟩ := DataW.trod_int Try.underlying34 h2
  obtain ⟨old, e3, _, w3⟩ := DataW.trod_int Try.underlying34 h3
  obtain ⟨xx, e4, _, w4⟩ := DataW.trod_int Try.underlying34 h4
  obtain ⟨N, e5, _, w5⟩ := DataW.trod_int Try.underlying3 h5
  simp at e0 e1 e2 e3 e4 e5
  subst e0 e1 e2 e3 e4 e5
  exact ⟨K, T, o, old, xx, N, rfl, w2, w3, w4, w5⟩
set_option maxRecDepth 10000 in
theorem open_run {H : Type} {enc : TypeId × Value → H} {w : World} {base base2 : Nat} {r : Reach} {spare : Nat → Bool} {held : Bool} {v : Value} {d : DataW H} {p : List MemPlace} (hv : Value.okWide Try.prog w r base2 24 v) (h : DataW.Trod enc Try.prog w base spare held 24 v d p) :
    ∃ (L : Int) (E : Option Addr) (n c : Nat), v = .agg #[.int .i64 L, .slice E n c] ∧ n ≤ maxLen ∧ EvsAt w w.heap.size E n := by
  obtain ⟨cs, rfl, hsz⟩ := okWide_struct Try.underlying24 hv
  obtain ⟨fuel, hf0⟩ := h
  obtain ⟨xs, n0, _, hx, hl, hlen, hf⟩ := DataW.trod_struct Try.underlying24 hf0
  have hi : Try.prog.cellsOf 3 = 1 := by kernel_rfl
  have hs : Try.prog.cellsOf 22 = 1 := by kernel_rfl
  have h6 : Try.prog.cellsOf 36 = 6 := by kernel_rfl
  have hsz2 : cs.size = 2 := hsz.trans (by kernel_rfl)
  obtain ⟨c0, c1, rfl⟩ : ∃ c0 c1, cs = #[c0, c1] := by
    obtain ⟨l⟩ := cs
    match l, hsz2 with
    | [c0, c1], _ => exact ⟨c0, c1, rfl⟩
  have hx2 : xs.length = 2 := hlen
  obtain ⟨y0, y1, rfl⟩ := list2 xs hx2
  have h0 : DataW.trod enc Try.prog w base spare held n0 3 (List.take (Try.prog.cellsOf 3) (List.drop 0 [c0, c1])) = some y0 := hf 0 _ rfl
  have h1 : DataW.trod enc Try.prog w base spare held n0 22 (List.take (Try.prog.cellsOf 22) (List.drop 1 [c0, c1])) = some y1 := hf 1 _ rfl
  rw [hi] at h0
  rw [hs] at h1
  obtain ⟨L, e0, _, w0⟩ := DataW.trod_int Try.underlying3 h0
  simp at e0
  subst e0
  rcases DataW.trod_slice Try.underlying22 h1 with ⟨e1, _⟩ | ⟨a, len, cap, elems, rest, n1, _, e1, _, hb, hlc, hm, hle, hel, _, _⟩
  · simp at e1
    subst e1
    exact ⟨L, none, 0, 0, rfl, by simp, fun j hj => absurd hj (by omega)⟩
  · simp at e1
    subst e1
    refine ⟨L, some a, len, cap, rfl, by omega, fun j hj => ?_⟩
    have h2 := hel j hj
    rw [h6] at h2
    have h3 : elems[j]? = some (elems[j]'(by omega)) := List.getElem?_eq_getElem _
    rw [h3, Option.bind_eq_some_iff] at h2
    obtain ⟨cs', hcs, hy⟩ := h2
    obtain ⟨K, T, o, old, xx, N, rfl, w2, w3, w4, w5⟩ := open_ev hy
    have hc := (World.cells?_some hcs).2.2
    have b2 := wf_u64 w2
    have b3 := wf_u64 w3
    have b4 := wf_u64 w4
    have b5 := wf_i64 w5
    obtain ⟨o, rfl⟩ := Int.eq_ofNat_of_zero_le b2.1
    obtain ⟨old, rfl⟩ := Int.eq_ofNat_of_zero_le b3.1
    obtain ⟨xx, rfl⟩ := Int.eq_ofNat_of_zero_le b4.1
    have hbl : (a.add (j * 6)).block < w.heap.size := by
      have k0 : w.cell? (a.add (j * 6)) = some (.int .i64 K) := hc 0 (by omega)
      exact cell_lt k0
    rw [add_block] at hbl
    exact ⟨a, rfl, hbl, K, T, N, o, old, xx, by have := b2.2; omega, by have := b4.2; omega, b5.1, b5.2, hc 0 (by omega), hc 1 (by omega), hc 2 (by omega), hc 3 (by omega), hc 4 (by omega), hc 5 (by omega)⟩
end Go.Proofs.Ytmipodnfkilcfaa.Dev
/-
  THE ARGUMENTS []Ev AND Ev.
-/
set_option linter.unusedVariables false
set_option linter.unusedSimpArgs false
namespace Go.Proofs.Ytmipodnfkilcfaa.Dev
open Go.ChangeShapes Go.WideShapes Go.ChangeAt Go.RowKit Go.Proofs.Ytmipodnfkilcfaa.Mem Go.Proofs.Ytmipodnfkilcfaa.Args Go.Proofs.Ytmipodnfkilcfaa.Own
set_option maxRecDepth 10000 in
theorem open_evs {H : Type} {enc : TypeId × Value → H} {w : World} {base base2 : Nat} {r : Reach} {spare : Nat → Bool} {held : Bool} {v : Value} {d : DataW H} {p : List MemPlace} (hv : Value.okWide Try.prog w r base2 22 v) (h : DataW.Trod enc Try.prog w base spare held 22 v d p) :
    ∃ (E : Option Addr) (n c : Nat), v = .slice E n c ∧ n ≤ maxLen ∧ EvsAt w w.heap.size E n := by
  obtain ⟨E, n, c, rfl⟩ := okWide_slice Try.underlying22 hv
  obtain ⟨fuel, h1⟩ := h
  have h6 : Try.prog.cellsOf 36 = 6 := by kernel_rfl
  rcases DataW.trod_slice Try.underlying22 h1 with ⟨e1, _⟩ | ⟨a, len, cap, elems, rest, n1, _, e1, _, hb, hlc, hm, hle, hel, _, _⟩
  · simp [Value.cells] at e1
    obtain ⟨rfl, rfl, rfl⟩ := e1
    exact ⟨none, 0, 0, rfl, by simp, fun j hj => absurd hj (by omega)⟩
  · simp [Value.cells] at e1
    obtain ⟨rfl, rfl, rfl⟩ := e1
    refine ⟨some a, n, c, rfl, by omega, fun j hj => ?_⟩
    have h2 := hel j hj
    rw [h6] at h2
    have h3 : elems[j]? = some (elems[j]'(by omega)) := List.getElem?_eq_getElem _
    rw [h3, Option.bind_eq_some_iff] at h2
    obtain ⟨cs', hcs, hy⟩ := h2
    obtain ⟨K, T, o, old, xx, N, rfl, w2, w3, w4, w5⟩ := open_ev hy
    have hc := (World.cells?_some hcs).2.2
    have b2 := wf_u64 w2
    have b3 := wf_u64 w3
    have b4 := wf_u64 w4
    have b5 := wf_i64 w5
    obtain ⟨o, rfl⟩ := Int.eq_ofNat_of_zero_le b2.1
    obtain ⟨old, rfl⟩ := Int.eq_ofNat_of_zero_le b3.1
    obtain ⟨xx, rfl⟩ := Int.eq_ofNat_of_zero_le b4.1
    have hbl : (a.add (j * 6)).block < w.heap.size := by
      have k0 : w.cell? (a.add (j * 6)) = some (.int .i64 K) := hc 0 (by omega)
      exact cell_lt k0
    rw [add_block] at hbl
    exact ⟨a, rfl, hbl, K, T, N, o, old, xx, by have := b2.2; omega, by have := b4.2; omega, b5.1, b5.2, hc 0 (by omega), hc 1 (by omega), hc 2 (by omega), hc 3 (by omega), hc 4 (by omega), hc 5 (by omega)⟩
set_option maxRecDepth 10000 in
theorem open_evx {H : Type} {enc : TypeId × Value → H} {w : World} {base base2 : Nat} {r : Reach} {spare : Nat → Bool} {held : Bool} {v : Value} {d : DataW H} {p : List MemPlace} (hv : Value.okWide Try.prog w r base2 36 v) (h : DataW.Trod enc Try.prog w base spare held 36 v d p) :
    ∃ (K T N : Int) (o old x : Nat), v = .agg #[.int .i64 K, .int .i64 T, .int .u64 (o : Int), .int .u64 (old : Int), .int .u64 (x : Int), .int .i64 N] ∧ o < 18446744073709551616 ∧ x < 18446744073709551616 ∧ -9223372036854775808 ≤ N ∧ N ≤ 9223372036854775807 := by
  obtain ⟨cs, rfl, hsz⟩ := okWide_struct Try.underlying36 hv
  obtain ⟨fuel, hf0⟩ := h
  obtain ⟨K, T, o, old, xx, N, e, w2, w3, w4, w5⟩ := open_ev hf0
  have b2 := wf_u64 w2
  have b3 := wf_u64 w3
  have b4 := wf_u64 w4
  have b5 := wf_i64 w5
  obtain ⟨o, rfl⟩ := Int.eq_ofNat_of_zero_le b2.1
  obtain ⟨old, rfl⟩ := Int.eq_ofNat_of_zero_le b3.1
  obtain ⟨xx, rfl⟩ := Int.eq_ofNat_of_zero_le b4.1
  have e2 : cs.toList = _ := e
  obtain ⟨l⟩ := cs
  have e3 : l = _ := e2
  subst e3
  exact ⟨K, T, N, o, old, xx, rfl, by have := b2.2; omega, by have := b4.2; omega, b5.1, b5.2⟩
end Go.Proofs.Ytmipodnfkilcfaa.Dev
/-
  THE LAWS' 'awake': the chapter's example; it answers true.
-/
set_option linter.unusedVariables false
set_option linter.unusedSimpArgs false
namespace Go.Proofs.Ytmipodnfkilcfaa.Dev
open Go.ChangeShapes Go.WideShapes Go.ChangeAt Go.RowKit Go.Proofs.Ytmipodnfkilcfaa.Mem Go.Proofs.Ytmipodnfkilcfaa.Args Go.Proofs.Ytmipodnfkilcfaa.Own
theorem Step.belowOf {w0 w w' : World} {A : Adr} {S S' : St} (h : Step w w' w0.heap.size A S S') (hd : IsDev w w0.heap.size A S) (hb : Below w0.heap.size w0 w) : Below w0.heap.size w0 w' := by
  obtain ⟨A', a1, a2, a3, a4, a5⟩ := h
  exact hb.trans (a4.below hb.size (fun b hbb => hd.baseLe b hbb))
def A1 : St := (St.new 2).storeS 0 0 1
def A2 : St := A1.storeS 0 8 2
def A3 : St := A2.storeS 0 64 3
theorem A1_ok : A1.Ok 2 := St.storeS_ok (St.new_ok 2 (by omega) (by omega)) 0 0 1 (by omega)
theorem A2_ok : A2.Ok 4 := St.storeS_ok A1_ok 0 8 2 (by omega)
theorem A3_ok : A3.Ok 6 := St.storeS_ok A2_ok 0 64 3 (by omega)
theorem A3_n : A3.n = 2 := by unfold A3 A2 A1; rw [St.storeS_n, St.storeS_n, St.storeS_n]; rfl
theorem A3_c0 : (content A3 (pickOf A3 [1]) A3.n).getD 0 0 = 1 := by decide +kernel
theorem A3_c8 : (content A3 (pickOf A3 [1]) A3.n).getD 8 0 = 0 := by decide +kernel
theorem A3_c64 : (content A3 (pickOf A3 [1]) A3.n).getD 64 0 = 3 := by decide +kernel
theorem A3_len : (content A3 (pickOf A3 [1]) A3.n).length = 128 := by rw [content_len, A3_n]
theorem A3_load : A3.load 8 = 2 := by decide +kernel
def DevAt (w0 w : World) (d : Nat) (S : St) : Prop := ∃ A : Adr, A.d = d ∧ IsDev w w0.heap.size A S ∧ Below w0.heap.size w0 w
theorem DevAt.alloc {w0 w : World} {d : Nat} {S : St} (h : DevAt w0 w d S) (o : Obj) : DevAt w0 (w.alloc o) d S := by
  obtain ⟨A, hd, hi, hb⟩ := h
  exact ⟨A, hd, hi.below ((Below.refl _ _).alloc (Nat.le_refl _) o) (Nat.le_refl _), hb.trans ((Below.refl _ _).alloc hb.size o)⟩
theorem thr0 (w : World) (d : Nat) : Calls Try.prog 12 #[.pointer (some ⟨d, 0, none⟩), .int .i64 0] w fun r w' => r = .returned (.pointer (some ⟨d, 1, none⟩)) ∧ w' = w := thread_any w d 0 (by omega)
theorem st_step {w0 w : World} {d M : Nat} {S : St} (o x : Nat) (h : DevAt w0 w d S) (hS : S.Ok M) (hM : M ≤ 1000) (ho : o < 18446744073709551616) :
    Calls Try.prog 13 #[.pointer (some ⟨d, 1, none⟩), .int .u64 (o : Int), .int .u64 (x : Int)] w fun r w' => r = .returned (.tuple #[]) ∧ Hid (DevAt w0 w' d (S.storeS 0 o x)) := by
  obtain ⟨A, hd, hi, hb⟩ := h
  subst hd
  refine (store_thread_any w w0.heap.size (M + 1) A S 0 o x hi (hS.more (by omega)) (St.cntS_ok hS _ _) (by omega) (by omega) ho hb.size).mono ?_
  rintro r w' ⟨e, hs⟩
  obtain ⟨A', a1, a2, a3, a4, a5⟩ := hs.out
  exact ⟨e, Lib.hid ⟨A', a1, a3, hb.trans (a4.below hb.size (fun b hbb => hi.baseLe b hbb))⟩⟩
theorem ld_step {w0 w : World} {d : Nat} (h : DevAt w0 w d A3) :
    Calls Try.prog 15 #[.pointer (some ⟨d, 1, none⟩), .int .u64 8] w fun r w' => r = .returned (.int .u64 2) ∧ Hid (Below w0.heap.size w0 w') := by
  obtain ⟨A, hd, hi, hb⟩ := h
  subst hd
  refine (load_any w w0.heap.size 6 A A3 0 8 hi A3_ok (by omega) (by omega)).mono ?_
  rintro r w' ⟨e, hs⟩
  rw [A3_load] at e
  obtain ⟨A', a1, a2, a3, a4, a5⟩ := hs.out
  exact ⟨e, Lib.hid (hb.trans (a4.below hb.size (fun b hbb => hi.baseLe b hbb)))⟩
theorem own_addr {k : IntKind} {e : TypeId} {w : World} {base : Nat} {v : Value} {zs : List Int} (h : OwnInts k e w base v zs) (hn : 0 < zs.length) : ∃ g cap, v = .slice (some ⟨g, 0, none⟩) zs.length cap ∧ base ≤ g ∧ g < w.heap.size := by
  rcases h.2 with ⟨_, h0⟩ | ⟨g, cap, cur, rfl, hb, hg, _⟩
  · omega
  · exact ⟨g, cap, rfl, hb, (Array.getElem?_eq_some_iff.1 hg).1⟩
theorem im_step {w0 w : World} {d : Nat} (h : DevAt w0 w d A3) (B : Nat) (C : Option Addr) (hB : B ≤ w.heap.size) (hr : IntsAt .u8 w B C [1]) :
    Calls Try.prog 14 #[.pointer (some ⟨d, 0, none⟩), .slice C 1 1] w fun e w' => ∃ g cc, e = .returned (.slice (some ⟨g, 0, none⟩) 128 cc) ∧ Hid ((w'.cell? ⟨g, 0, none⟩ = some (.int .u8 1) ∧ w'.cell? ⟨g, 8, none⟩ = some (.int .u8 0) ∧ w'.cell? ⟨g, 64, none⟩ = some (.int .u8 3)) ∧ DevAt w0 w' d A3) := by
  obtain ⟨A, hd, hi, hb⟩ := h
  subst hd
  refine (image_any w w0.heap.size 6 A A3 C 1 1 B [1] hi A3_ok (by omega) rfl (by omega) hr hB (by simp)).mono ?_
  rintro r w' ⟨v, e, hs⟩
  obtain ⟨g, c, e1, _, _⟩ := own_addr hs.out.1 (by rw [A3_len]; omega)
  have ho := hs.out.1
  rw [e1] at ho
  rw [A3_len] at e1
  have c0 := (ho.cell 0 (by rw [A3_len]; omega)).1
  have c8 := (ho.cell 8 (by rw [A3_len]; omega)).1
  have c64 := (ho.cell 64 (by rw [A3_len]; omega)).1
  rw [A3_c0] at c0
  rw [A3_c8] at c8
  rw [A3_c64] at c64
  subst e1
  exact ⟨g, c, e, Lib.hid ⟨⟨c0, c8, c64⟩, A, rfl, hi.below hs.out.2 (Nat.le_refl _), hb.trans (hs.out.2.mono hb.size)⟩⟩
set_option maxRecDepth 100000 in
theorem awake_any (W : World) : Calls Try.prog 5 #[] W fun e W' => e = .returned (.bool true) ∧ Hid (Below W.heap.size W W') := by
  have HN : Hid (Calls Try.prog 11 #[.int .i64 2] W fun e w' => ∃ d : Nat, e = .returned (.tuple #[.pointer (some ⟨d, 0, none⟩), .int .i64 0]) ∧ Hid (DevAt W w' d (St.new 2))) := Lib.hid (by
    refine (new_any W 2 (by omega) (by omega)).mono ?_
    rintro r w' ⟨A, e, hs⟩
    exact ⟨A.d, e, Lib.hid ⟨A, rfl, hs.out.1, hs.out.2⟩⟩)
  go_enter Try.func5, Try.ntmps5
  go_wp2_with (first
    | (go_at_call 11; refine HN.out.mono ?_; rintro e w1 ⟨d, rfl, H1⟩)
    | (go_at_call 12; refine (thr0 w1 d).mono ?_; rintro e w' ⟨rfl, hw⟩; have hw2 := hw.symm; clear hw; subst hw2)
    | (go_at_call 13; refine (st_step (w := w1) 0 1 H1.out (St.new_ok 2 (by omega) (by omega)) (by omega) (by omega)).mono ?_; rintro e w2 ⟨rfl, H2⟩; clear H1)
    | (go_at_call 13; refine (st_step (w := w2) 8 2 H2.out A1_ok (by omega) (by omega)).mono ?_; rintro e w3 ⟨rfl, H3⟩; clear H2)
    | (go_at_call 13; refine (st_step (w := w3) 64 3 H3.out A2_ok (by omega) (by omega)).mono ?_; rintro e w4 ⟨rfl, H4⟩; clear H3)
    | (go_at_call 14; refine (im_step (w0 := W) (w := w4.alloc (.cells #[.int .u8 1] 5)) (H4.out.alloc _) (w4.heap.size + 1) (some ⟨w4.heap.size, 0, none⟩) (by simp) (IntsAt.new .u8 w4 5 (0, 0) [1])).mono ?_; rintro e w5 ⟨g, cc, rfl, H5⟩; clear H4; obtain ⟨⟨c0, c8, c64⟩, H6⟩ := H5.out; clear H5; have H7 := Lib.hid (ld_step H6); clear H6)
    | (go_at_call 15; refine H7.out.mono ?_; rintro e w6 ⟨rfl, H8⟩))
  go_ret
  exact ⟨rfl, H8⟩
end Go.Proofs.Ytmipodnfkilcfaa.Dev
