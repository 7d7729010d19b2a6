/-
  CONTRACT: the reference's Diff.
-/
import Derived.Test.YtpfmongenmemdaaDoorIRres
import Derived.BigQuiet
set_option linter.unusedVariables false
set_option linter.unusedSimpArgs false
namespace Go.Proofs.YtpfmongenmemdaaDoor.Base
open Go.ChangeShapes Go.WideShapes Go.ChangeAt Go.RowKit Go.Sort Go.Lib Go.Proofs.YtpfmongenmemdaaDoor.Args Go.Proofs.YtpfmongenmemdaaDoor.Own
def pe (zp zq : List Int) (s j : Nat) : Bool := decide ((zp.drop s).take j = (zq.drop s).take j)
theorem pe_zero (zp zq : List Int) (s : Nat) : pe zp zq s 0 = true := by simp [pe]
theorem pe_succ {zp zq : List Int} {s j : Nat} (h1 : s + j < zp.length) (h2 : s + j < zq.length) (hx : zp.getD (s + j) 0 = zq.getD (s + j) 0) (h : pe zp zq s j = true) : pe zp zq s (j + 1) = true := by
  unfold pe at *
  rw [decide_eq_true_iff] at *
  rw [List.take_add_one, List.take_add_one, h]
  simp only [List.getD, List.getElem?_eq_getElem h1, List.getElem?_eq_getElem h2, Option.getD_some] at hx
  simp [List.getElem?_drop, List.getElem?_eq_getElem h1, List.getElem?_eq_getElem h2, hx]
theorem pe_fail {zp zq : List Int} {s j : Nat} (h1 : s + j < zp.length) (h2 : s + j < zq.length) (hx : ¬ zp.getD (s + j) 0 = zq.getD (s + j) 0) : pe zp zq s (j + 1) = false := by
  unfold pe
  rw [decide_eq_false_iff_not]
  intro h
  have := congrArg (fun l => l[j]?) h
  simp [List.getElem?_take, List.getElem?_drop, List.getElem?_eq_getElem h1, List.getElem?_eq_getElem h2] at this
  simp [List.getD, List.getElem?_eq_getElem h1, List.getElem?_eq_getElem h2] at hx
  exact hx this
theorem u8s_line (zs : List Int) (k : Nat) : ((u8s zs).drop (64 * k)).take 64 = u8s ((zs.drop (64 * k)).take 64) := by
  unfold u8s; rw [List.map_take, List.map_drop]
theorem wf_line {zs : List Int} (hw : ∀ z ∈ zs, (Lit.int .u8 z).wf = true) (k : Nat) : ∀ z ∈ (zs.drop (64 * k)).take 64, (Lit.int .u8 z).wf = true := fun z hz => hw z (List.mem_of_mem_drop (List.mem_of_mem_take hz))
theorem line_eq {zp zq : List Int} {a b k : Nat} (ha : zp.length = 64 * a) (hb : zq.length = 64 * b) (h1 : k < a) (h2 : k < b) (h : pe zp zq (64 * k) 64 = true) : lineL (u8s zp) k = lineL (u8s zq) k := by
  unfold pe at h
  rw [decide_eq_true_iff] at h
  rw [lineL_in (by rw [u8s_length]; omega), lineL_in (by rw [u8s_length]; omega), u8s_line, u8s_line, h]
theorem line_ne {zp zq : List Int} {a b k j : Nat} (hp : ∀ z ∈ zp, (Lit.int .u8 z).wf = true) (hq : ∀ z ∈ zq, (Lit.int .u8 z).wf = true) (ha : zp.length = 64 * a) (hb : zq.length = 64 * b) (h1 : k < a) (h2 : k < b) (hj : j ≤ 64) (h : pe zp zq (64 * k) j = false) : ¬ lineL (u8s zp) k = lineL (u8s zq) k := by
  unfold pe at h
  rw [decide_eq_false_iff_not] at h
  rw [lineL_in (by rw [u8s_length]; omega), lineL_in (by rw [u8s_length]; omega), u8s_line, u8s_line]
  intro e
  have e2 := congrArg ints e
  rw [ints_u8s (wf_line hp k), ints_u8s (wf_line hq k)] at e2
  have e3 := congrArg (List.take j) e2
  rw [List.take_take, List.take_take, show min j 64 = j by omega] at e3
  exact h e3
theorem line_one {zp zq : List Int} {a b k : Nat} (ha : zp.length = 64 * a) (hb : zq.length = 64 * b) (h1 : ¬ (k < a ∧ k < b)) (h2 : k < a ∨ k < b) : ¬ lineL (u8s zp) k = lineL (u8s zq) k := by
  intro e
  have e2 := congrArg List.length e
  by_cases h : k < a
  · rw [lineL_in (by rw [u8s_length]; omega), lineL_out (by rw [u8s_length]; omega), List.length_take, List.length_drop, u8s_length, List.length_nil] at e2
    omega
  · rw [lineL_out (by rw [u8s_length]; omega), lineL_in (by rw [u8s_length]; omega), List.length_take, List.length_drop, u8s_length, List.length_nil] at e2
    omega
set_option maxHeartbeats 1600000 in
set_option maxRecDepth 100000 in
theorem rdiff_any (A : Option Addr) (n c B : Nat) (zp : List Int) (A' : Option Addr) (n' c' B' : Nat) (zq : List Int) (a b : Nat) (w : World) (hl : zp.length = n) (hl' : zq.length = n') (ha : n = 64 * a) (hb : n' = 64 * b) (ha2 : a ≤ 67108863) (hb2 : b ≤ 67108863)
    (hr : Hid (IntsAt .u8 w B A zp)) (hr' : Hid (IntsAt .u8 w B' A' zq)) (hB : B ≤ w.heap.size) (hB' : B' ≤ w.heap.size) (hw : Hid (∀ z ∈ zp, (Lit.int .u8 z).wf = true)) (hw' : Hid (∀ z ∈ zq, (Lit.int .u8 z).wf = true)) :
    Calls Tryd.prog 24 #[.slice A n c, .slice A' n' c'] w fun e w' => ∃ v, e = .returned v ∧ Hid (OwnInts .i64 3 w' w.heap.size v (diffAll (u8s zp) (u8s zq)) ∧ Below w.heap.size w w') := by
  subst ha
  subst hb
  have HL := Lib.hid hl
  have HL' := Lib.hid hl'
  obtain ⟨i0, hi, hz0, hz1, hz2⟩ := info_parts infoInt
  have HI := Lib.hid hi
  have HZ0 := Lib.hid hz0
  have HZ1 := Lib.hid hz1
  have HZ2 := Lib.hid hz2
  obtain ⟨N, hN⟩ : ∃ N, max a b = N := ⟨_, rfl⟩
  have HD : Hid (diffAll (u8s zp) (u8s zq) = diffZ (u8s zp) (u8s zq) N) := Lib.hid (by
    unfold diffAll; rw [u8s_length, u8s_length, hl, hl', ← hN]; congr 1; omega)
  have hNa : a ≤ N := by omega
  have hNb : b ≤ N := by omega
  have hNc : N ≤ 67108863 := by omega
  have hNd : N = a ∨ N = b := by omega
  clear hl hl' hi hz0 hz1 hz2 hN
  go_enter Tryd.func24, Tryd.ntmps24
  go_wp2
  go_loopw [5, 6] (fun v vk wr => ∃ k : Nat, k ≤ N ∧ vk = .int .i64 (k : Int) ∧ Hid (OwnInts .i64 3 wr w.heap.size v (diffZ (u8s zp) (u8s zq) k) ∧ Below w.heap.size w wr)) (fun _ vk _ => N - (RowKit.intOf vk).toNat)
  case atStart => exact ⟨0, by omega, rfl, Lib.hid ⟨OwnInts.nil_ _ _ _ _, Below.refl _ _⟩⟩
  case round =>
    obtain ⟨k, hk, rfl, HO⟩ := hrel
    rename World => wr
    have hdl := diffZ_length (u8s zp) (u8s zq) k
    have hw1 : wrap64 (64 * (k : Int)) = 64 * (k : Int) := by unfold wrap64; omega
    by_cases hlt : k < a ∨ k < b
    · have hkN : k < N := by omega
      by_cases hboth : k < a ∧ k < b
      · obtain ⟨hka, hkb⟩ := hboth
        have h1 : (64 * (k : Int) < ((64 * a : Nat) : Int)) := by omega
        have h2 : (64 * (k : Int) < ((64 * b : Nat) : Int)) := by omega
        have HEQ := Lib.hid (fun h => diffZ_same (k := k) (line_eq HL.out HL'.out hka hkb h))
        have HNE := Lib.hid (fun j hj h => diffZ_other (k := k) (line_ne (j := j) hw.out hw'.out HL.out HL'.out hka hkb hj h))
        go_wp2
        go_loopw [7, 8] (fun vb vk wi => ∃ j d : Nat, j ≤ 64 ∧ vb = .bool (pe zp zq (64 * k) j) ∧ vk = .int .i64 (64 * (k : Int) + (j : Int)) ∧ wi = wr.drewN d) (fun _ vk _ => 64 * k + 64 - (RowKit.intOf vk).toNat)
        case atStart => exact ⟨0, 0, by omega, by rw [pe_zero], by go_num, rfl⟩
        case round =>
          obtain ⟨j, d, hj, rfl, rfl, rfl⟩ := hrel
          have HOd : Hid (OwnInts .i64 3 (wr.drewN d) w.heap.size u5 (diffZ (u8s zp) (u8s zq) k) ∧ Below w.heap.size w (wr.drewN d)) := Lib.hid ⟨HO.out.1.drewN d, Go.Proofs.YtpfmongenmemdaaDoor.Law.below_draws HO.out.2 d⟩
          by_cases hpe : pe zp zq (64 * k) j = true
          · rw [hpe]
            by_cases hj64 : j < 64
            · have hkp : 64 * k + j < zp.length := by have := HL.out; omega
              have hkq : 64 * k + j < zq.length := by have := HL'.out; omega
              obtain ⟨ad, rfl, hadb, hc0⟩ := hr.out (64 * k + j) hkp
              obtain ⟨ad', rfl, hadb', hc0'⟩ := hr'.out (64 * k + j) hkq
              have hc1 := (HO.out.2.cell (p := ad.add (64 * k + j)) (by rw [add_block]; omega)).trans hc0
              have hc1' := (HO.out.2.cell (p := ad'.add (64 * k + j)) (by rw [add_block]; omega)).trans hc0'
              have HPS := Lib.hid (fun h => pe_succ (j := j) hkp hkq h hpe)
              have HPF := Lib.hid (fun h => pe_fail (j := j) hkp hkq h)
              clear hc0 hc0' hpe
              obtain ⟨x, hx⟩ : ∃ x, zp.getD (64 * k + j) 0 = x := ⟨_, rfl⟩
              obtain ⟨x', hx'⟩ : ∃ x, zq.getD (64 * k + j) 0 = x := ⟨_, rfl⟩
              rw [hx] at hc1 HPS HPF
              rw [hx'] at hc1' HPS HPF
              obtain ⟨s, hs⟩ : ∃ s, 64 * k + j = s := ⟨_, rfl⟩
              have hsi : 64 * (k : Int) + (j : Int) = (s : Int) := by omega
              rw [hs] at hc1 hc1'
              rw [hsi]
              have hs1 : s < 64 * a := by omega
              have hs2 : s < 64 * b := by omega
              have hs3 : (s : Int) < 64 * (k : Int) + 64 := by omega
              clear hx hx' hkp hkq hsi
              have HSV := Lib.hid hs
              clear hs
              by_cases hxx : x = x'
              · have hp1 := HPS.out hxx
                go_wp2
                go_quiet (fail)
                go_wp2
                go_roundw
                case rel => exact ⟨j + 1, _, by omega, by first | (rw [hp1]; done) | (rw [hp1]; simp [hxx]), by have := HSV.out; go_num, rfl⟩
                case measure => have := HSV.out; simp [RowKit.intOf]; omega
              · have hp1 := HPF.out hxx
                go_wp2
                go_quiet (fail)
                go_wp2
                go_roundw
                case rel => exact ⟨j + 1, _, by omega, by first | (rw [hp1]; done) | (rw [hp1]; simp [hxx]), by have := HSV.out; go_num, rfl⟩
                case measure => have := HSV.out; simp [RowKit.intOf]; omega
            · have h64 : j = 64 := by omega
              subst h64
              have HS := Lib.hid (HEQ.out hpe)
              clear hpe
              go_wp2
              go_roundw
              case rel => exact ⟨k + 1, by omega, by go_num, by rw [HS.out]; exact HOd⟩
              case measure => simp [RowKit.intOf]; omega
          · rw [Bool.not_eq_true] at hpe
            have HS := Lib.hid (HNE.out j hj hpe)
            rw [hpe]
            clear hpe
            go_wp2_with (at_builtin; refine wpList_app (by simp [Region.wanted, yielded]) (.tmp 58) (.tmp 60) 46 rfl (v := u5) (B := (wr.drewN d).heap.size + 1) (c := 1) (A := some ⟨(wr.drewN d).heap.size, 0, none⟩) (zs := [(k : Int)]) Tryd.underlying46 HI.out HZ0.out HZ1.out HZ2.out rfl rfl (HOd.out.1.alloc _) rfl (IntsAt.new .i64 (wr.drewN d) 3 (0, 0) [(k : Int)]) rfl (by simp [maxLen]; omega) (by omega) (Nat.le_trans HOd.out.2.size (by simp)) ?_; intro v2 w3 ho2 hg2 ha2; have hb2 := HOd.out.2.trans (((Below.refl w.heap.size (wr.drewN d)).alloc HOd.out.2.size _).trans ((HOd.out.1.alloc _).grownBelow hg2 (Nat.le_trans HOd.out.2.size (by simp)))); rw [← HS.out] at ho2; have HQ := Lib.hid (And.intro ho2 hb2); clear ho2 hg2 ha2 hb2 HOd)
            go_roundw
            case rel => exact ⟨k + 1, by omega, by go_num, HQ⟩
            case measure => simp [RowKit.intOf]; omega
      · have HS := Lib.hid (diffZ_other (k := k) (line_one HL.out HL'.out hboth hlt))
        go_wp2
        all_goals first | (exfalso; omega) | skip
        all_goals (
          go_loopw [7, 8] (fun vb vk wi => vb = .bool false ∧ wi = wr) (fun _ _ _ => 0)
          case atStart => exact ⟨by first | rfl | (simp; omega), rfl⟩
          case round =>
            obtain ⟨rfl, hwi⟩ := hrel
            subst hwi
            go_wp2_with (at_builtin; refine wpList_app (by simp [Region.wanted, yielded]) (.tmp 58) (.tmp 60) 46 rfl (v := u5) (B := (wr).heap.size + 1) (c := 1) (A := some ⟨(wr).heap.size, 0, none⟩) (zs := [(k : Int)]) Tryd.underlying46 HI.out HZ0.out HZ1.out HZ2.out rfl rfl (HO.out.1.alloc _) rfl (IntsAt.new .i64 (wr) 3 (0, 0) [(k : Int)]) rfl (by simp [maxLen]; omega) (by omega) (Nat.le_trans HO.out.2.size (by simp)) ?_; intro v2 w3 ho2 hg2 ha2; have hb2 := HO.out.2.trans (((Below.refl w.heap.size (wr)).alloc HO.out.2.size _).trans ((HO.out.1.alloc _).grownBelow hg2 (Nat.le_trans HO.out.2.size (by simp)))); rw [← HS.out] at ho2; have HQ := Lib.hid (And.intro ho2 hb2); clear ho2 hg2 ha2 hb2 HO)
            go_roundw
            case rel => exact ⟨k + 1, by omega, by go_num, HQ⟩
            case measure => simp [RowKit.intOf]; omega)
    · have : k = N := by omega
      subst this
      go_wp2
      all_goals first
        | (exfalso; omega)
        | (go_ret; exact ⟨_, rfl, by rw [HD.out]; exact HO⟩)
end Go.Proofs.YtpfmongenmemdaaDoor.Base
