/-
  PROVED: the law ImageWords answers true for every input, and each argument reads behind the call as before (Rows.ImageWordsCardSaid). No condition.
-/
import Derived.Test.YtpfmongenmemdaaDoorCards
import Derived.Test.YtpfmongenmemdaaDoorTie
import Derived.Test.YtpfmongenmemdaaDoorLaid
import Derived.Test.YtpfmongenmemdaaDoorLaw
import Derived.Test.YtpfmongenmemdaaDoorArgs
import Derived.Test.YtpfmongenmemdaaDoorILawBase
import Derived.Test.YtpfmongenmemdaaDoorIRword
namespace Go.Proofs.YtpfmongenmemdaaDoor.imageWords
open Go.ChangeShapes Go.WideShapes Go.ChangeAt Go.RowKit Go.Proofs.YtpfmongenmemdaaDoor.Law Go.Proofs.YtpfmongenmemdaaDoor.Args Go.Proofs.YtpfmongenmemdaaDoor.Base
set_option linter.unusedVariables false
set_option linter.unusedSimpArgs false
theorem below_step {a b c : World} (h1 : Below a.heap.size a b) (h2 : Below b.heap.size b c) : Below a.heap.size a c := h1.trans (h2.mono h1.size)
set_option maxHeartbeats 4000000 in
set_option maxRecDepth 100000 in
theorem walk {W : World} (HE : Pow W.heap.size W ∧ Tz W.heap.size W) (A0 : Option Addr) (n0 c0 : Nat) (z0 : List Int) (l0 : z0.length = n0) (b0 : n0 ≤ c0) (m0 : c0 ≤ maxLen) (s0 : c0 * 1 ≤ 140737488351232) (r0 : IntsAt .u8 W W.heap.size A0 z0) (w0 : ∀ z ∈ z0, (Lit.int .u8 z).wf = true)
    (a1 : Int) (w1 : (Lit.int .u64 a1).wf = true) (a2 : Int) (w2 : (Lit.int .u64 a2).wf = true) : Calls Tryd.prog 4 #[.slice A0 n0 c0, .int .u64 a1, .int .u64 a2] W fun e W' => e = .returned (.bool true) ∧ Below W.heap.size W W' := by
  have h1 := wf_u64 w1
  have h2 := wf_u64 w2
  obtain ⟨zs, l, m, hWh⟩ := Whole.of (c := c0) l0 r0 w0
  obtain ⟨v, rfl⟩ : ∃ v : Nat, a2 = (v : Int) := ⟨a2.toNat, by omega⟩
  have hv : v < 18446744073709551616 := by omega
  have HA := Lib.hid (awake_any W.heap.size W (Nat.le_refl _) HE.1 HE.2)
  have HWh := Lib.hid (fun w => whole_at hWh w b0 (by omega))
  have HNw := Lib.hid (fun w hb => new_at hWh w hb)
  have HSm := Lib.hid (fun w hb => same_at hWh w hb)
  have hm40 := hWh.m40
  have HH := Lib.hid hWh
  have hll := hWh.ll
  have hl32 : l.length ≤ 4294967295 := by omega
  have HWd := Lib.hid (fun w => word_any l a1 w hl32 (by omega) h1.1 h1.2)
  have HBd := Lib.hid (fun w => bad_any A0 (64 * m) c0 l a1 w hll (by omega) h1.1 h1.2)
  clear hWh HE l0 b0 m0 s0 r0 w0 w1 w2
  by_cases hz : cErr l a1 = 0
  · obtain ⟨e1, e2⟩ := cErr_zero hz
    obtain ⟨o, rfl⟩ : ∃ o : Nat, a1 = (o : Int) := ⟨a1.toNat, by omega⟩
    have ho : o + 8 ≤ 64 * m := by omega
    have ho8 : o % 8 = 0 := by omega
    have hwn := wNum_ok hz
    rw [show ((o : Int)).toNat = o by omega] at hwn
    rw [hz, hwn] at HWd
    rw [hz] at HBd
    have HWi := Lib.hid (fun w => with_ok l o v w hl32 ho8 (by omega) hv)
    obtain ⟨l2, hl2⟩ : ∃ l2, withL l o v = l2 := ⟨_, rfl⟩
    have hlen2 : l2.length = 64 * m := by rw [← hl2, withL_length _ _ _ (by omega), hll]
    have hz2 : cErr l2 (o : Int) = 0 := cErr_ok (by omega) (by omega)
    have hwn2 : wNum l2 (o : Int) = (v : Int) := by
      rw [wNum_ok hz2, show ((o : Int)).toNat = o by omega, ← hl2, wordN_withL l o v (by omega) hv]
    have HWd2 := Lib.hid (fun w => word_any l2 (o : Int) w (by omega) (by omega) h1.1 h1.2)
    rw [hz2, hwn2] at HWd2
    have HU : Hid (l2 = u8s (pz zs o v 8)) := Lib.hid (by rw [pz_u8s zs o v (by have := HH.out.lz; omega), HH.out.el, hl2])
    have HZL : Hid ((pz zs o v 8).length = 64 * m) := Lib.hid (by rw [pz_length, HH.out.lz])
    have HRW : Hid (∀ w, Below W.heap.size W w → Calls Tryd.prog 19 #[.slice A0 (64 * m) c0, .int .u64 (o : Int)] w fun e w' => e = .returned (.int .u64 (wordN l o : Nat)) ∧ Below w.heap.size w w') := Lib.hid (fun w hb => by
      have hh := rword_any A0 (64 * m) c0 W.heap.size zs o w HH.out.lz (Lib.hid (HH.out.at_.below hb)) (Lib.hid HH.out.wf) ho (by omega)
      rw [HH.out.el] at hh
      refine hh.mono ?_
      rintro e w' ⟨rfl, d, rfl⟩
      exact ⟨rfl, Go.Proofs.YtpfmongenmemdaaDoor.Law.below_draws (Below.refl _ _) d⟩)
    have HRP := Lib.hid (fun w (hb : Below W.heap.size W w) => rput_any A0 (64 * m) c0 W.heap.size zs o v w HH.out.lz (Lib.hid (HH.out.at_.below hb)) hb.size ho (by omega) hv)
    rw [hl2] at HWi
    obtain ⟨n, hn⟩ : ∃ n, 64 * m = n := ⟨_, rfl⟩
    have hn32 : n ≤ 4294967295 := by omega
    rw [hn] at HWh HNw HSm HBd HRW HRP HZL
    generalize wordN l o = x at *
    clear hz hwn hl2 hlen2 hz2 hwn2 hn hll e1 e2 ho ho8 hl32
    have TK1 := HA
    have TK2 := HA
    go_enter Tryd.func4, Tryd.ntmps4
    go_wp2_with (first
      | (go_at_call 10; go_must (refine HA.out.mono ?_); rintro e wA ⟨rfl, hbA⟩)
      | (go_at_call 15; go_must (refine (HWh.out _).mono ?_); rintro e w' ⟨rfl, hw⟩; have hw2 := hw.symm; clear hw; subst hw2)
      | (go_at_call 11; go_must (refine (HNw.out _ hbA).mono ?_); rintro e wN ⟨rfl, hbN⟩; have BX := Lib.hid (Box.new (hbA.trans (hbN.mono hbA.size)) l); have cx := BX.out.c; clear hbN)
      | (go_at_call 16; have tt := TK1; clear TK1 tt; go_must (refine (HWd.out _).mono ?_); rintro e wR ⟨rfl, hbR⟩; have BX2 := Lib.hid (BX.out.on hbR); have cx2 := BX2.out.c; clear hbR cx BX)
      | (go_at_call 17; go_must (refine (HWi.out _).mono ?_); rintro e wS ⟨rfl, hbS⟩; have BY := Lib.hid (Box.new (BX2.out.bb.trans (hbS.mono BX2.out.bb.size)) l2); have BX3 := Lib.hid ((BX2.out.on hbS).alloc (.cells #[str l2] 25)); have cy := BY.out.c; clear hbS cx2 BX2)
      | (go_at_call 18; go_must (refine (HBd.out _).mono ?_); rintro e w' ⟨rfl, hw⟩; have hw2 := hw.symm; clear hw; subst hw2)
      | (go_at_call 16; go_must (refine (HWd2.out _).mono ?_); rintro e wz ⟨rfl, hbR⟩; have BX4 := Lib.hid (BX3.out.on hbR); have BY4 := Lib.hid (BY.out.on hbR); clear hbR cy BX3 BY))
    have cx := BX4.out.c
    have cy := BY4.out.c
    have hbz : Below wz.heap.size wz wz.drew := (Below.refl _ _).drew
    have HFIN := Lib.hid (fun w (hb : Below wz.heap.size wz w) => BX4.out.bb.trans (hb.mono BX4.out.bb.size))
    have HRW2 := Lib.hid (fun w (hb : Below wz.heap.size wz w) => HRW.out w (HFIN.out w hb))
    have HRP2 := Lib.hid (fun w (hb : Below wz.heap.size wz w) => HRP.out w (HFIN.out w hb))
    have HSm2 := Lib.hid (fun w (hb : Below wz.heap.size wz w) => HSm.out w (HFIN.out w hb))
    have TK3 := HA
    go_region_held3 (fun w' => w'.cell? ⟨wN.heap.size, 0, none⟩ = some (str l) ∧ w'.cell? ⟨wS.heap.size, 0, none⟩ = some (str l2) ∧ Below wz.heap.size wz w') (first | assumption | (refine ⟨?_, ?_, ?_⟩ <;> assumption)) (first
      | (go_at_call 19; go_must (refine (HRW2.out _ (by assumption)).mono ?_); rintro e wP ⟨rfl, hbP⟩; have qb := below_step ‹Below wz.heap.size wz _› hbP; have q1 := (BX4.out.on qb).c; have q2 := (BY4.out.on qb).c; clear hbP)
      | (go_at_call 20; go_must (refine (HRP2.out _ (by assumption)).mono ?_); rintro e wQ ⟨g, cap, rfl, HO⟩; have qc := below_step ‹Below wz.heap.size wz _› HO.out.2; have r1 := (BX4.out.on qc).c; have r2 := (BY4.out.on qc).c)
      | (go_at_call 13; have tt := TK3; clear TK3 tt; go_must (refine (same_own HO.out.1 HZL.out hn32 HU.out (by first | exact Below.refl _ _ | exact (Below.refl _ _).drew | exact Go.Proofs.YtpfmongenmemdaaDoor.Law.below_draws (Below.refl _ _) _ | exact (Go.Proofs.YtpfmongenmemdaaDoor.Law.below_draws (Below.refl _ _) _).drew)).mono ?_); rintro e wT ⟨rfl, hbQ⟩; have qd := below_step (below_step qc (by first | exact Below.refl _ _ | exact (Below.refl _ _).drew | exact Go.Proofs.YtpfmongenmemdaaDoor.Law.below_draws (Below.refl _ _) _ | exact (Go.Proofs.YtpfmongenmemdaaDoor.Law.below_draws (Below.refl _ _) _).drew)) hbQ; have s1 := (BX4.out.on qd).c; have s2 := (BY4.out.on qd).c; clear hbQ)
      | (go_at_call 13; go_must (refine (HSm2.out _ (by assumption)).mono ?_); rintro e wU ⟨rfl, hbU⟩; have qe := below_step ‹Below wz.heap.size wz _› hbU; have t1 := (BX4.out.on qe).c; have t2 := (BY4.out.on qe).c; clear hbU))
    have HB := HFIN.out _ qe
    go_wp2
    go_ret
    exact ⟨rfl, HB⟩
  · have HWi := Lib.hid (fun w => with_bad l a1 v w hl32 h1.1 h1.2 hv hz)
    have HLn := Lib.hid (fun w => lines_any [] w (by simp))
    rw [show (([] : List UInt8).length / 64 : Nat) = 0 from rfl] at HLn
    rw [wNum_bad hz] at HWd
    have hz2 : (cErr l a1 == 0) = false := by rw [beq_eq_false_iff_ne]; exact hz
    have hz3 : (cErr l a1 != 0) = true := by simp [bne, hz2]
    obtain ⟨n, hn⟩ : ∃ n, 64 * m = n := ⟨_, rfl⟩
    rw [hn] at HWh HNw HSm HBd
    generalize cErr l a1 = x at *
    clear hn hll hl32
    go_enter Tryd.func4, Tryd.ntmps4
    go_wp2_with (first
      | (go_at_call 10; go_must (refine HA.out.mono ?_); rintro e wA ⟨rfl, hbA⟩)
      | (go_at_call 15; go_must (refine (HWh.out _).mono ?_); rintro e w' ⟨rfl, hw⟩; have hw2 := hw.symm; clear hw; subst hw2)
      | (go_at_call 11; go_must (refine (HNw.out _ hbA).mono ?_); rintro e wN ⟨rfl, hbN⟩; have BX := Lib.hid (Box.new (hbA.trans (hbN.mono hbA.size)) l); have cx := BX.out.c; clear hbN)
      | (go_at_call 16; go_must (refine (HWd.out _).mono ?_); rintro e wR ⟨rfl, hbR⟩; have BX2 := Lib.hid (BX.out.on hbR); have cx2 := BX2.out.c; clear hbR cx BX)
      | (go_at_call 17; go_must (refine (HWi.out _).mono ?_); rintro e wS ⟨rfl, hbS⟩; have BY := Lib.hid (Box.new (BX2.out.bb.trans (hbS.mono BX2.out.bb.size)) []); have BX3 := Lib.hid ((BX2.out.on hbS).alloc (.cells #[str []] 25)); have cy := BY.out.c; have cx3 := BX3.out.c; clear hbS cx2 BX2)
      | (go_at_call 18; go_must (refine (HBd.out _).mono ?_); rintro e w' ⟨rfl, hw⟩; have hw2 := hw.symm; clear hw; subst hw2)
      | (go_at_call 12; go_must (refine (HLn.out _).mono ?_); rintro e wL ⟨rfl, hbL⟩; have BX4 := Lib.hid (BX3.out.on hbL); have cx4 := BX4.out.c; clear hbL cx3)
      | (go_at_call 13; go_must (refine (HSm.out _ BX4.out.bb).mono ?_); rintro e wT ⟨rfl, hbT⟩; have HB := Lib.hid (BX4.out.bb.trans (hbT.mono BX4.out.bb.size)); clear hbT cx4))
    all_goals first
      | (exfalso; omega)
      | (go_ret; exact ⟨ret_bool (by simp), HB.out⟩)

/-! ### the frame -/
theorem cells5 : Tryd.prog.cellsOf 5 = 1 := by kernel_rfl
theorem own : ownKnob Tryd.prog.godebug = none := by kernel_rfl
set_option maxRecDepth 100000 in
theorem calls {H : Type} {enc : TypeId × Value → H} (W : World) (base : Nat) (args : Array Value) (ds : List (DataW H)) (p : List MemPlace)
    (hval0 : ∀ (j : Nat) t v, Tryd.f4.params[j]? = some t → args[j]? = some v → Value.okWide Tryd.prog W .any base t v)
    (hA : DataW.TrodAll enc Tryd.prog W 0 (fun _ => true) true Tryd.f4.params.toList args.toList ds p) (_ : W.noneFrozen p)
    (hsz : (DataW.weightsEach Tryd.prog Tryd.f4.params.toList ds).all (· ≤ reachBytes) = true) (hL : laidMetH Tryd.prog Rows.imageWordsRow.laid W) (hS : W.ShapedOpen Tryd.prog) :
    Calls Tryd.prog 4 args W fun e W' => e = .returned (.bool true) ∧ Below W.heap.size W W' := by
  have hval : ∀ (j : Nat) t v, Tryd.f4.params[j]? = some t → args[j]? = some v → Value.okWide Tryd.prog W .any base t v := hval0
  clear hval0
  rw [Tryd.params4] at hA hval hsz
  obtain ⟨v0, vs0, d0, ds0, p0, q0, hargs, rfl, rfl, h0, r'0⟩ := trodAll_cons hA
  obtain ⟨v1, vs1, d1, ds1, p1, q1, rfl, rfl, rfl, h1, r'1⟩ := trodAll_cons r'0
  obtain ⟨v2, vs2, d2, ds2, p2, q2, rfl, rfl, rfl, h2, r'2⟩ := trodAll_cons r'1
  obtain ⟨rfl, rfl, rfl⟩ := trodAll_nil r'2
  obtain rfl : args = #[v0, v1, v2] := by cases args; simp_all
  obtain ⟨A0, n0, c0, z0, rfl, l0, b0, m0, s0, r0, w0⟩ := open_slice_ints (j := 0) (bytes := 1) Tryd.underlying22 Tryd.underlying5 cells5 (by kernel_rfl) (hval 0 22 v0 rfl rfl) h0 hsz rfl rfl
  obtain ⟨a1, rfl, rfl, rfl, w1⟩ := open_int Tryd.underlying33 (hval 1 33 v1 rfl rfl) h1
  obtain ⟨a2, rfl, rfl, rfl, w2⟩ := open_int Tryd.underlying33 (hval 2 33 v2 rfl rfl) h2
  exact walk (W := W) (Base.envs hL hS) A0 n0 c0 z0 l0 b0 m0 s0 r0 w0 a1 w1 a2 w2
theorem laid_met (os : Os) : laidMet Tryd.prog Rows.imageWordsRow.laid ((Base.laidWorldE os).forCall (fun _ _ => 0) ⟨#[], #[.slice none 0 0, .int .u64 0, .int .u64 0], []⟩).memory := laidMet_laidAll _ (by kernel_rfl) (by kernel_rfl)
theorem reads (os : Os) {H : Type} (enc : TypeId × Value → H) : ∃ places, DataW.whole enc Tryd.prog ((Base.laidWorldE os).forCall (fun _ _ => 0) ⟨#[], #[.slice none 0 0, .int .u64 0, .int .u64 0], []⟩).memory Tryd.f4.params.toList Rows.imageWordsSpec.vars false #[(Value.slice none 0 0), (Value.int .u64 0), (Value.int .u64 0)].toList 8 = some ([.nil, .lit (.int .u64 0), .lit (.int .u64 0)], [], places) := ⟨[], by kernel_rfl⟩
set_option maxRecDepth 100000 in
theorem lifted (os : Os) (started : os.Started) (H : Type) (enc : TypeId × Value → H) (F : Stop.Interp) :
    ReturnsInHanded {} Tryd.checked os 4 .any ((OpenSpec.ofChange Rows.imageWordsSpec).preRow enc Tryd.prog Tryd.f4 Rows.imageWordsRow.domain false Rows.imageWordsRow.laid) (((OpenSpec.ofChange Rows.imageWordsSpec).at F).post enc Tryd.prog Tryd.f4 false true false false) := by
  obtain ⟨places, hx⟩ := reads os enc
  exact laid_lifted_s (C := Tryd.checked) (s := Rows.imageWordsSpec) (b := 4) own (by kernel_rfl) Tryd.func4 (by kernel_rfl) (by kernel_rfl) rfl Tryd.underlying4 rfl
    (fun ds h => by match ds, h with | [_, _, _], _ => rfl) calls os started F
    (witness_row_at (enc := enc) (C := Tryd.checked) false (Base.laidWorldE os) #[.slice none 0 0, .int .u64 0, .int .u64 0] rfl (by kernel_rfl) (by kernel_rfl) (by kernel_rfl)
      (OpenSpec.preRow_of_cond 8 hx (by kernel_rfl) (fun k hk => by cases hk) (by kernel_rfl) (laid_met os)))
theorem said : Rows.ImageWordsSaid :=
  OpenClaim.holds_of_cond 4 Tryd.f4 rfl rfl rfl rfl rfl rfl rfl ⟨rfl, rfl, rfl, rfl, rfl⟩ rfl rfl rfl rfl rfl (by kernel_rfl) Tryd.func4 (by kernel_rfl)
    (of_decide_eq_true (by kernel_rfl)) (by unfold Func.isWrapper; first | (rw [if_pos (by decide +kernel)]; kernel_rfl) | (rw [if_neg (by decide +kernel)]; exact ⟨rfl, rfl⟩))
    (fun os started H enc _ F => by rw [OpenClaim.pre_eq_preRow]; exact lifted os started H enc F)
theorem plain (f : FuncId) (fn : Func) (hf : Tryd.pinned.checked.prog.funcNamed "bedrock/bedrocklaw04.ImageWords" = some f) (hfn : Tryd.pinned.checked.prog.funcs[f]? = some fn) :
    false = Tryd.pinned.checked.prog.looks [] ∧ ∀ (j : Nat) t, fn.params[j]? = some t → Tryd.pinned.checked.prog.wantsStandIn t = false := by
  obtain rfl : f = 4 := Option.some.inj ((show Tryd.prog.funcNamed "bedrock/bedrocklaw04.ImageWords" = some 4 by kernel_rfl).symm.trans hf) |>.symm
  obtain rfl : fn = Tryd.f4 := (Option.some.inj (Tryd.func4.symm.trans hfn)).symm
  have hall : Tryd.f4.params.toList.all (fun t => !Tryd.prog.wantsStandIn t) = true := by kernel_rfl
  refine ⟨by kernel_rfl, fun j t ht => ?_⟩
  have := List.all_eq_true.1 hall t (by simpa using Array.mem_of_getElem? ht)
  exact (show Tryd.prog.wantsStandIn t = false by simpa using this)
/-- ████ THE STATEMENT: THE CARD ████ -/
theorem proved : Rows.ImageWordsCardSaid :=
  Claim7.holds_tied_plain_at .later [] _ _ _ _ said (fun _ h => by cases h) (by kernel_rfl) (fun _ h => by cases h) imageWords_row_tie rfl ⟨rfl, rfl⟩ (by kernel_rfl) rfl plain (by kernel_rfl)
#print axioms proved
end Go.Proofs.YtpfmongenmemdaaDoor.imageWords
