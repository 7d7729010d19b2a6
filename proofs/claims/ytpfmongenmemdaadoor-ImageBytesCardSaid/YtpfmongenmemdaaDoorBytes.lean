/-
  PROVED: the law ImageBytes answers true for every input, and each argument reads behind the call as before (Rows.ImageBytesCardSaid). No condition.
-/
import Derived.Test.YtpfmongenmemdaaDoorCards
import Derived.Test.YtpfmongenmemdaaDoorTie
import Derived.Test.YtpfmongenmemdaaDoorLaid
import Derived.Test.YtpfmongenmemdaaDoorLaw
import Derived.Test.YtpfmongenmemdaaDoorArgs
import Derived.Test.YtpfmongenmemdaaDoorILawBase
import Derived.Test.YtpfmongenmemdaaDoorIRword
namespace Go.Proofs.YtpfmongenmemdaaDoor.imageBytes
open Go.ChangeShapes Go.WideShapes Go.ChangeAt Go.RowKit Go.Proofs.YtpfmongenmemdaaDoor.Law Go.Proofs.YtpfmongenmemdaaDoor.Args Go.Proofs.YtpfmongenmemdaaDoor.Base
set_option linter.unusedVariables false
set_option linter.unusedSimpArgs false
theorem below_step {a b c : World} (h1 : Below a.heap.size a b) (h2 : Below b.heap.size b c) : Below a.heap.size a c := h1.trans (h2.mono h1.size)
open Go.Proofs.YtpfmongenmemdaaDoor.Own in
set_option maxHeartbeats 4000000 in
set_option maxRecDepth 100000 in
theorem walk {W : World} (HE : Pow W.heap.size W ∧ Tz W.heap.size W) (A0 : Option Addr) (n0 c0 : Nat) (z0 : List Int) (l0 : z0.length = n0) (b0 : n0 ≤ c0) (m0 : c0 ≤ maxLen) (s0 : c0 * 1 ≤ 140737488351232) (r0 : IntsAt .u8 W W.heap.size A0 z0) (w0 : ∀ z ∈ z0, (Lit.int .u8 z).wf = true) : Calls Tryd.prog 3 #[.slice A0 n0 c0] W fun e W' => e = .returned (.bool true) ∧ Below W.heap.size W W' := by
  have HA := Lib.hid (fun w (hb : Below W.heap.size W w) => awake_any W.heap.size w hb.size (HE.1.on hb) (HE.2.on hb))
  have HA0 := Lib.hid (HA.out W (Below.refl _ _))
  have HL := Lib.hid l0
  have HR := Lib.hid r0
  have HC := Lib.hid (fun w (hb : Below W.heap.size W w) => conv_u8s (c := c0) (HR.out.below hb) HL.out)
  obtain ⟨l, hl⟩ : ∃ l, u8s z0 = l := ⟨_, rfl⟩
  rw [hl] at HC
  have HUL := Lib.hid hl
  have TK1 := HL
  clear hl HE l0 m0 s0 r0 w0
  by_cases hbig : 5000 < n0
  · go_enter Tryd.func3, Tryd.ntmps3
    go_wp2_with (first
      | (go_at_call 10; have tt := TK1; clear TK1 tt; go_must (refine HA0.out.mono ?_); rintro e wA ⟨rfl, hbA⟩)
      | (go_at_call 10; go_must (refine (HA.out _ hbA).mono ?_); rintro e wB ⟨rfl, hbB⟩; have HB := Lib.hid (hbA.trans (hbB.mono hbA.size)); clear hbB))
    all_goals first
      | (exfalso; omega)
      | (go_ret; exact ⟨rfl, HB.out⟩)
  · have hle : n0 ≤ 5000 := by omega
    by_cases h64 : n0 % 64 = 0
    · have hmod : (n0 : Int).tmod 64 = 0 := by rw [Int.tmod_eq_emod_of_nonneg (by omega)]; omega
      have hmod2 : (n0 : Int) % 64 = 0 := by omega
      have HNw := Lib.hid (fun w (hb : Below W.heap.size W w) => new_ok A0 n0 c0 W.heap.size z0 w HL.out (Lib.hid (HR.out.below hb)) hb.size h64 (by omega))
      rw [HUL.out] at HNw
      have HSm := Lib.hid (fun w (hb : Below W.heap.size W w) => same_any A0 n0 c0 W.heap.size z0 l w HUL.out.symm HL.out (Lib.hid (HR.out.below hb)) hb.size (by omega))
      have HLL : Hid (l.length = n0) := Lib.hid (by rw [← HUL.out, u8s_length, HL.out])
      have HBy := Lib.hid (fun w => bytes_any l w (by have := HLL.out; omega))
      rw [HLL.out] at HBy
      obtain ⟨i0, hi, hz0, hz1, hz2⟩ := info_parts infoB
      have HI := Lib.hid hi
      have HZ0 := Lib.hid hz0
      have HZ1 := Lib.hid hz1
      have HZ2 := Lib.hid hz2
      have H64 := Lib.hid h64
      clear hi hz0 hz1 hz2 hbig h64 b0
      go_enter Tryd.func3, Tryd.ntmps3
      go_wp2_with (first
        | (go_at_call 10; go_must (refine HA0.out.mono ?_); rintro e wA ⟨rfl, hbA⟩; have hcv := HC.out wA hbA)
        | (go_at_call 11; go_must (refine (HNw.out _ hbA).mono ?_); rintro e wN ⟨rfl, hbN⟩; have BX := Lib.hid (Box.new (hbA.trans (hbN.mono hbA.size)) l); have cx := BX.out.c; clear hbN hcv)
        | (go_at_call 13; go_must (refine (HSm.out _ BX.out.bb).mono ?_); rintro e w1 ⟨rfl, hbS⟩; have BX2 := Lib.hid (BX.out.on hbS); have cx2 := BX2.out.c; clear hbS cx BX)
        | (go_at_call 14; go_must (refine (HBy.out _).mono ?_); rintro e w2 ⟨g, cg, rfl, HN⟩; have BX3 := Lib.hid (BX2.out.on HN.out.bb); clear cx2))
      have hg0 := HN.out.lo
      have HB1 := Lib.hid BX2.out.bb
      have HLI : Hid ((ints l).length = n0) := Lib.hid (by rw [ints_length, HLL.out])
      go_loopw [50] (fun vk wr => ∃ k : Nat, k ≤ n0 ∧ vk = .int .i64 (k : Int) ∧ Hid ((∀ j, j < n0 → ∃ z, wr.cell? ⟨g, j, none⟩ = some (.int .u8 z)) ∧ (∀ j, j < n0 → wr.frozen? ⟨g, j, none⟩ = false) ∧ Below w1.heap.size w1 wr)) (fun vk _ => n0 - (RowKit.intOf vk).toNat)
      case atStart =>
        refine ⟨0, by omega, rfl, Lib.hid ⟨fun j hj => ?_, fun j hj => HN.out.fr j (by rw [HLL.out]; exact hj), HN.out.bb⟩⟩
        obtain ⟨ad, e, _, hc⟩ := HN.out.at_ j (by rw [HLI.out]; exact hj)
        injection e with e
        subst e
        rw [addr_add] at hc
        exact ⟨_, hc⟩
      case round =>
        obtain ⟨k, hk, rfl, HQ⟩ := hrel
        rename World => wr
        by_cases hlt : k < n0
        · obtain ⟨z, hc0⟩ := HQ.out.1 k hlt
          have hf0 := HQ.out.2.1 k hlt
          have HQ2 : ∀ y, Hid ((∀ j, j < n0 → ∃ z, (wr.setCell ⟨g, k, none⟩ (.int .u8 y)).cell? ⟨g, j, none⟩ = some (.int .u8 z)) ∧ (∀ j, j < n0 → (wr.setCell ⟨g, k, none⟩ (.int .u8 y)).frozen? ⟨g, j, none⟩ = false) ∧ Below w1.heap.size w1 (wr.setCell ⟨g, k, none⟩ (.int .u8 y))) := fun y => Lib.hid ⟨fun j hj => by
            by_cases hjk : j = k
            · subst hjk
              exact ⟨y, World.cell?_setCell_same _ _ _ hc0⟩
            · obtain ⟨z', hz'⟩ := HQ.out.1 j hj
              exact ⟨z', (World.cell?_setCell_other _ _ _ _ (by first | (simp; done) | (simp; omega))).trans hz'⟩, fun j hj => by rw [World.frozen?_setCell]; exact HQ.out.2.1 j hj, HQ.out.2.2.setCell hg0 _⟩
          have HQ3 := Lib.hid HQ2
          clear HQ2
          go_wp2
          go_roundw
          case rel => exact ⟨k + 1, by omega, by go_num, HQ3.out _⟩
          case measure => simp [RowKit.intOf]; omega
        · have hkn : k = n0 := by omega
          subst hkn
          have BX4 := Lib.hid (BX2.out.on HQ.out.2.2)
          go_wp2_with (first
            | (at_builtin; refine wpList_app (by simp [Region.wanted, yielded]) (.const (.slice none 0 0)) (.tmp 62) 22 rfl (v := .slice none 0 0) (B := W.heap.size) (c := c0) (A := A0) (zs := z0) Tryd.underlying22 HI.out HZ0.out HZ1.out HZ2.out rfl rfl (OwnInts.nil_ _ _ _ wr.heap.size) rfl (HR.out.below BX4.out.bb) HL.out (by simp [maxLen]; omega) (by simp; omega) (Nat.le_refl _) ?_; intro v3 w3 ho3 hg3 ha3; rw [List.nil_append] at ho3; have HO3 : Hid (OwnInts .u8 5 w3 wr.heap.size v3 z0 ∧ Below wr.heap.size wr w3) := Lib.hid ⟨ho3, (OwnInts.nil_ .u8 5 wr wr.heap.size).grownBelow hg3 (Nat.le_refl _)⟩; clear ho3 hg3 ha3; obtain ⟨A3, c3, hv3, hy1, hy2, hy3, hy4⟩ := HO3.out.1.form; rw [HL.out] at hv3; subst hv3; have HI3 := Lib.hid hy4; clear hy1 hy2 hy3 hy4)
            | (go_at_call 11; go_must (refine (new_ok A3 k c3 w3.heap.size z0 w3 HL.out HI3 (Nat.le_refl _) H64.out (by omega)).mono ?_); rintro e wM ⟨rfl, hbM⟩; rw [HUL.out]; have HSZ := Lib.hid hbM.size; have BY := Lib.hid (Box.new (below_step (below_step BX4.out.bb HO3.out.2) hbM) l); have BX5 := Lib.hid (((BX4.out.on HO3.out.2).on hbM).alloc (.cells #[str l] 25)); have HO4 := Lib.hid (And.intro ((HO3.out.1.below hbM).alloc (.cells #[str l] 25)) (below_step (below_step HO3.out.2 hbM) ((Below.refl _ _).alloc (Nat.le_refl _) (.cells #[str l] 25)))); clear hbM))
          obtain ⟨w4, hw4⟩ : ∃ w4, wM.alloc (.cells #[str l] 25) = w4 := ⟨_, rfl⟩
          rw [hw4] at BY BX5 HO4
          rw [hw4]
          clear hw4
          have hgi : wN.heap.size < wr.heap.size := BX4.out.lt
          have HFIN := Lib.hid (fun w (hb : Below wr.heap.size wr w) => BX4.out.bb.trans (hb.mono BX4.out.bb.size))
          have HA3 : Hid (0 < k → ∃ g2, A3 = some ⟨g2, 0, none⟩ ∧ wr.heap.size ≤ g2 ∧ g2 < wM.heap.size) := Lib.hid (fun hpos => by
            obtain ⟨g2, cap2, hv, hlo, hlt⟩ := own_addr HO3.out.1 (by rw [HL.out]; exact hpos)
            injection hv with e1 e2 e3
            exact ⟨g2, e1, hlo, Nat.lt_of_lt_of_le hlt HSZ.out⟩)
          go_loopw [71] (fun vk wq => ∃ (j : Nat) (zs : List Int), j ≤ k ∧ vk = .int .i64 (j : Int) ∧ zs.length = k ∧ Hid (OwnInts .u8 5 wq wr.heap.size (.slice A3 k c3) zs ∧ Below wr.heap.size wr wq ∧ wq.cell? ⟨wN.heap.size, 0, none⟩ = some (str l) ∧ wq.cell? ⟨wM.heap.size, 0, none⟩ = some (str l))) (fun vk _ => k - (RowKit.intOf vk).toNat)
          case atStart => exact ⟨0, z0, by omega, rfl, HL.out, Lib.hid ⟨HO4.out.1, HO4.out.2, BX5.out.c, BY.out.c⟩⟩
          case round =>
            obtain ⟨j, zs, hj, rfl, hzs, HO⟩ := hrel
            rename World => wq
            by_cases hlt2 : j < k
            · obtain ⟨g2, rfl, hlo, hhi⟩ := HA3.out (by omega)
              obtain ⟨hc0, hf0⟩ := OwnInts.cell HO.out.1 j (by omega)
              have HQ4 : Hid (OwnInts .u8 5 (wq.setCell ⟨g2, j, none⟩ (.int .u8 7)) wr.heap.size (.slice (some ⟨g2, 0, none⟩) k c3) (zs.set j 7) ∧ Below wr.heap.size wr (wq.setCell ⟨g2, j, none⟩ (.int .u8 7)) ∧ (wq.setCell ⟨g2, j, none⟩ (.int .u8 7)).cell? ⟨wN.heap.size, 0, none⟩ = some (str l) ∧ (wq.setCell ⟨g2, j, none⟩ (.int .u8 7)).cell? ⟨wM.heap.size, 0, none⟩ = some (str l)) := Lib.hid ⟨OwnInts.stored HO.out.1 hzs j 7, HO.out.2.1.setCell hlo _, (World.cell?_setCell_other _ _ _ _ (by intro e; injection e with e; omega)).trans HO.out.2.2.1, (World.cell?_setCell_other _ _ _ _ (by intro e; injection e with e; omega)).trans HO.out.2.2.2⟩
              have hzs2 : (zs.set j 7).length = k := by rw [List.length_set, hzs]
              clear hc0
              obtain ⟨hc0, hf0⟩ := OwnInts.cell HO.out.1 j (by omega)
              go_wp2
              go_roundw
              case rel => exact ⟨j + 1, _, by omega, by go_num, hzs2, HQ4⟩
              case measure => simp [RowKit.intOf]; omega
            · have hjk : j = k := by omega
              subst hjk
              have hcv := HC.out wq (HFIN.out wq HO.out.2.1)
              have ci := HO.out.2.2.1
              have cj := HO.out.2.2.2
              have hzi : wN.heap.size < wq.heap.size := Nat.lt_of_lt_of_le hgi HO.out.2.1.size
              have hzj := cell_lt cj
              have TK2 := HL
              go_wp2_with (first
                | (go_at_call 13; have tt := TK2; clear TK2 tt; go_must (refine (HSm.out _ (HFIN.out wq HO.out.2.1)).mono ?_); rintro e wS ⟨rfl, hbS⟩; have ci2 := (hbS.cell (p := ⟨wN.heap.size, 0, none⟩) hzi).trans ci; have cj2 := (hbS.cell (p := ⟨wM.heap.size, 0, none⟩) hzj).trans cj; have HBS := Lib.hid ((HFIN.out wq HO.out.2.1).trans (hbS.mono (HFIN.out wq HO.out.2.1).size)); clear hbS ci cj)
                | (go_at_call 13; go_must (refine (HSm.out _ HBS.out).mono ?_); rintro e wT ⟨rfl, hbT⟩; have HB := Lib.hid (HBS.out.trans (hbT.mono HBS.out.size)); clear hbT))
              all_goals (go_ret; exact ⟨ret_bool (by simp), HB.out⟩)
    · obtain ⟨r, hr⟩ : ∃ r, n0 % 64 = r := ⟨_, rfl⟩
      have hmod2 : (n0 : Int) % 64 = (r : Int) := by omega
      have hmod : (n0 : Int).tmod 64 = (r : Int) := by rw [Int.tmod_eq_emod_of_nonneg (by omega)]; exact hmod2
      have hr0 : ¬ (r : Int) = 0 := by omega
      have hr1 : ((r : Int) != 0) = true := by simpa using hr0
      have HNf := Lib.hid (fun w => new_form A0 n0 c0 w h64)
      have HLn := Lib.hid (fun w => lines_any [] w (by simp))
      rw [show (([] : List UInt8).length / 64 : Nat) = 0 from rfl] at HLn
      clear h64 hr hbig
      go_enter Tryd.func3, Tryd.ntmps3
      go_wp2_with (first
        | (go_at_call 10; go_must (refine HA0.out.mono ?_); rintro e wA ⟨rfl, hbA⟩; have hcv := HC.out wA hbA)
        | (go_at_call 11; go_must (refine (HNf.out _).mono ?_); rintro e wN ⟨rfl, hbN⟩; have BX := Lib.hid (Box.new (hbA.trans (hbN.mono hbA.size)) []); have cx := BX.out.c; clear hbN hcv)
        | (go_at_call 12; go_must (refine (HLn.out _).mono ?_); rintro e wL ⟨rfl, hbL⟩; have HB := Lib.hid (BX.out.bb.trans (hbL.mono BX.out.bb.size)); clear hbL))
      all_goals first
        | (exfalso; omega)
        | (go_ret; exact ⟨ret_bool (by simp), HB.out⟩)

/-! ### the frame -/
theorem cells5 : Tryd.prog.cellsOf 5 = 1 := by kernel_rfl
theorem own : ownKnob Tryd.prog.godebug = none := by kernel_rfl
set_option maxRecDepth 100000 in
theorem calls {H : Type} {enc : TypeId × Value → H} (W : World) (base : Nat) (args : Array Value) (ds : List (DataW H)) (p : List MemPlace)
    (hval0 : ∀ (j : Nat) t v, Tryd.f3.params[j]? = some t → args[j]? = some v → Value.okWide Tryd.prog W .any base t v)
    (hA : DataW.TrodAll enc Tryd.prog W 0 (fun _ => true) true Tryd.f3.params.toList args.toList ds p) (_ : W.noneFrozen p)
    (hsz : (DataW.weightsEach Tryd.prog Tryd.f3.params.toList ds).all (· ≤ reachBytes) = true) (hL : laidMetH Tryd.prog Rows.imageBytesRow.laid W) (hS : W.ShapedOpen Tryd.prog) :
    Calls Tryd.prog 3 args W fun e W' => e = .returned (.bool true) ∧ Below W.heap.size W W' := by
  have hval : ∀ (j : Nat) t v, Tryd.f3.params[j]? = some t → args[j]? = some v → Value.okWide Tryd.prog W .any base t v := hval0
  clear hval0
  rw [Tryd.params3] at hA hval hsz
  obtain ⟨v0, vs0, d0, ds0, p0, q0, hargs, rfl, rfl, h0, r'0⟩ := trodAll_cons hA
  obtain ⟨rfl, rfl, rfl⟩ := trodAll_nil r'0
  obtain rfl : args = #[v0] := by cases args; simp_all
  obtain ⟨A0, n0, c0, z0, rfl, l0, b0, m0, s0, r0, w0⟩ := open_slice_ints (j := 0) (bytes := 1) Tryd.underlying22 Tryd.underlying5 cells5 (by kernel_rfl) (hval 0 22 v0 rfl rfl) h0 hsz rfl rfl
  exact walk (W := W) (Base.envs hL hS) A0 n0 c0 z0 l0 b0 m0 s0 r0 w0
theorem laid_met (os : Os) : laidMet Tryd.prog Rows.imageBytesRow.laid ((Base.laidWorldE os).forCall (fun _ _ => 0) ⟨#[], #[.slice none 0 0], []⟩).memory := laidMet_laidAll _ (by kernel_rfl) (by kernel_rfl)
theorem reads (os : Os) {H : Type} (enc : TypeId × Value → H) : ∃ places, DataW.whole enc Tryd.prog ((Base.laidWorldE os).forCall (fun _ _ => 0) ⟨#[], #[.slice none 0 0], []⟩).memory Tryd.f3.params.toList Rows.imageBytesSpec.vars false #[(Value.slice none 0 0)].toList 8 = some ([.nil], [], places) := ⟨[], by kernel_rfl⟩
set_option maxRecDepth 100000 in
theorem lifted (os : Os) (started : os.Started) (H : Type) (enc : TypeId × Value → H) (F : Stop.Interp) :
    ReturnsInHanded {} Tryd.checked os 3 .any ((OpenSpec.ofChange Rows.imageBytesSpec).preRow enc Tryd.prog Tryd.f3 Rows.imageBytesRow.domain false Rows.imageBytesRow.laid) (((OpenSpec.ofChange Rows.imageBytesSpec).at F).post enc Tryd.prog Tryd.f3 false true false false) := by
  obtain ⟨places, hx⟩ := reads os enc
  exact laid_lifted_s (C := Tryd.checked) (s := Rows.imageBytesSpec) (b := 4) own (by kernel_rfl) Tryd.func3 (by kernel_rfl) (by kernel_rfl) rfl Tryd.underlying4 rfl
    (fun ds h => by match ds, h with | [_], _ => rfl) calls os started F
    (witness_row_at (enc := enc) (C := Tryd.checked) false (Base.laidWorldE os) #[.slice none 0 0] rfl (by kernel_rfl) (by kernel_rfl) (by kernel_rfl)
      (OpenSpec.preRow_of_cond 8 hx (by kernel_rfl) (fun k hk => by cases hk) (by kernel_rfl) (laid_met os)))
theorem said : Rows.ImageBytesSaid :=
  OpenClaim.holds_of_cond 3 Tryd.f3 rfl rfl rfl rfl rfl rfl rfl ⟨rfl, rfl, rfl, rfl, rfl⟩ rfl rfl rfl rfl rfl (by kernel_rfl) Tryd.func3 (by kernel_rfl)
    (of_decide_eq_true (by kernel_rfl)) (by unfold Func.isWrapper; first | (rw [if_pos (by decide +kernel)]; kernel_rfl) | (rw [if_neg (by decide +kernel)]; exact ⟨rfl, rfl⟩))
    (fun os started H enc _ F => by rw [OpenClaim.pre_eq_preRow]; exact lifted os started H enc F)
theorem plain (f : FuncId) (fn : Func) (hf : Tryd.pinned.checked.prog.funcNamed "bedrock/bedrocklaw04.ImageBytes" = some f) (hfn : Tryd.pinned.checked.prog.funcs[f]? = some fn) :
    false = Tryd.pinned.checked.prog.looks [] ∧ ∀ (j : Nat) t, fn.params[j]? = some t → Tryd.pinned.checked.prog.wantsStandIn t = false := by
  obtain rfl : f = 3 := Option.some.inj ((show Tryd.prog.funcNamed "bedrock/bedrocklaw04.ImageBytes" = some 3 by kernel_rfl).symm.trans hf) |>.symm
  obtain rfl : fn = Tryd.f3 := (Option.some.inj (Tryd.func3.symm.trans hfn)).symm
  have hall : Tryd.f3.params.toList.all (fun t => !Tryd.prog.wantsStandIn t) = true := by kernel_rfl
  refine ⟨by kernel_rfl, fun j t ht => ?_⟩
  have := List.all_eq_true.1 hall t (by simpa using Array.mem_of_getElem? ht)
  exact (show Tryd.prog.wantsStandIn t = false by simpa using this)
/-- ████ THE STATEMENT: THE CARD ████ -/
theorem proved : Rows.ImageBytesCardSaid :=
  Claim7.holds_tied_plain_at .later [] _ _ _ _ said (fun _ h => by cases h) (by kernel_rfl) (fun _ h => by cases h) imageBytes_row_tie rfl ⟨rfl, rfl⟩ (by kernel_rfl) rfl plain (by kernel_rfl)
#print axioms proved
end Go.Proofs.YtpfmongenmemdaaDoor.imageBytes
