/-
  CONTRACT: the reference's Resize.
-/
import Derived.Test.YtpfmongenmemdaaDoorISame
set_option linter.unusedVariables false
set_option linter.unusedSimpArgs false
namespace Go.Proofs.YtpfmongenmemdaaDoor.Base
open Go.ChangeShapes Go.WideShapes Go.ChangeAt Go.RowKit Go.Sort Go.Lib Go.Proofs.YtpfmongenmemdaaDoor.Args Go.Proofs.YtpfmongenmemdaaDoor.Own
theorem infoB : (Tryd.prog.info? 5).map (fun i => (i.zero, i.size, i.bytes)) = some (some (.int .u8 0), 1, 1) := by kernel_rfl
def rzL (zs : List Int) (k : Nat) : List Int := (List.range k).map fun j => zs.getD j 0
theorem rzL_zero (zs : List Int) : rzL zs 0 = [] := rfl
theorem rzL_succ (zs : List Int) (k : Nat) : rzL zs (k + 1) = rzL zs k ++ [zs.getD k 0] := by unfold rzL; rw [List.range_succ, List.map_append]; rfl
theorem rzL_length (zs : List Int) (k : Nat) : (rzL zs k).length = k := by simp [rzL]
theorem rzL_u8s (zs : List Int) (m k : Nat) (h : zs.length = 64 * m) : u8s (rzL zs (64 * k)) = resizeL (u8s zs) k := by
  apply List.ext_getElem?
  intro i
  have hlen : (u8s zs).length / 64 = m := by rw [u8s_length, h]; omega
  unfold resizeL
  rw [hlen]
  by_cases hi : i < 64 * k
  · by_cases h2 : i < 64 * min k m
    · have h3 : i < zs.length := by omega
      rw [List.getElem?_append_left (by rw [List.length_take, u8s_length]; omega), List.getElem?_take, if_pos h2]
      simp [u8s, rzL, hi, h3, List.getD]
    · have h3 : zs.length ≤ i := by omega
      rw [List.getElem?_append_right (by rw [List.length_take, u8s_length]; omega), List.length_take, u8s_length]
      rw [List.getElem?_replicate, if_pos (by omega)]
      simp [u8s, rzL, hi, List.getD, h3]
  · rw [List.getElem?_eq_none (by rw [u8s_length, rzL_length]; omega), List.getElem?_eq_none (by rw [List.length_append, List.length_take, List.length_replicate, u8s_length]; omega)]
set_option maxHeartbeats 800000 in
set_option maxRecDepth 100000 in
theorem rres_any (A : Option Addr) (n c B : Nat) (zs : List Int) (m : Nat) (w : World) (hl : zs.length = n) (hn : n ≤ 4294967295) (hr : Hid (IntsAt .u8 w B A zs)) (hB : B ≤ w.heap.size) (hm : m ≤ 4294967295) :
    Calls Tryd.prog 22 #[.slice A n c, .int .i64 (m : Int)] w fun e w' => ∃ v, e = .returned v ∧ Hid (OwnInts .u8 5 w' w.heap.size v (rzL zs (64 * m)) ∧ Below w.heap.size w w') := by
  have HL := Lib.hid hl
  obtain ⟨i0, hi, hz0, hz1, hz2⟩ := info_parts infoB
  have HI := Lib.hid hi
  have HZ0 := Lib.hid hz0
  have HZ1 := Lib.hid hz1
  have HZ2 := Lib.hid hz2
  obtain ⟨N, hN⟩ : ∃ N, 64 * m = N := ⟨_, rfl⟩
  rw [hN]
  have hN2 : (N : Int) = 64 * (m : Int) := by omega
  have hNle : N ≤ 274877906880 := by omega
  clear hl hi hz0 hz1 hz2 hN
  go_enter Tryd.func22, Tryd.ntmps22
  go_wp2
  go_loopw [5, 6] (fun v vk wr => ∃ k : Nat, k ≤ N ∧ vk = .int .i64 (k : Int) ∧ Hid (OwnInts .u8 5 wr w.heap.size v (rzL zs k) ∧ Below w.heap.size w wr)) (fun _ vk _ => N - (RowKit.intOf vk).toNat)
  case atStart => exact ⟨0, by omega, rfl, Lib.hid ⟨OwnInts.nil_ _ _ _ _, Below.refl _ _⟩⟩
  case round =>
    obtain ⟨k, hk, rfl, HO⟩ := hrel
    rename World => wr
    by_cases hlt : k < N
    · have HS := Lib.hid (rzL_succ zs k)
      have hdl := rzL_length zs k
      have hlt2 : (k : Int) < 64 * (m : Int) := by omega
      by_cases hkn : k < n
      · obtain ⟨ad, rfl, hadb, hcell0⟩ := hr.out k (by rw [HL.out]; exact hkn)
        have hcell := (HO.out.2.cell (p := ad.add k) (by rw [add_block]; omega)).trans hcell0
        clear hcell0
        obtain ⟨x, hx⟩ : ∃ x, zs.getD k 0 = x := ⟨_, rfl⟩
        rw [hx] at hcell HS
        clear hx
        go_wp2_with (at_builtin; refine wpList_app (by simp [Region.wanted, yielded]) (.tmp 22) (.tmp 24) 22 rfl (v := u5) (B := wr.heap.size + 1) (c := 1) (A := some ⟨wr.heap.size, 0, none⟩) (zs := [x]) Tryd.underlying22 HI.out HZ0.out HZ1.out HZ2.out rfl rfl (HO.out.1.alloc _) rfl (IntsAt.new .u8 wr 5 (0, 0) [x]) rfl (by simp [maxLen]; omega) (by omega) (Nat.le_trans HO.out.2.size (by simp)) ?_; intro v2 w3 ho2 hg2 ha2; have hb2 := HO.out.2.trans (((Below.refl w.heap.size wr).alloc HO.out.2.size _).trans ((HO.out.1.alloc _).grownBelow hg2 (Nat.le_trans HO.out.2.size (by simp)))); rw [← HS.out] at ho2; have HQ := Lib.hid (And.intro ho2 hb2); clear ho2 hg2 ha2 hb2 HO)
        go_roundw
        case rel => exact ⟨k + 1, by omega, by go_num, HQ⟩
        case measure => simp [RowKit.intOf]; omega
      · have hx : zs.getD k 0 = 0 := by simp [List.getD, show zs.length ≤ k by rw [HL.out]; omega]
        rw [hx] at HS
        clear hx
        go_wp2_with (at_builtin; refine wpList_app (by simp [Region.wanted, yielded]) (.tmp 22) (.tmp 24) 22 rfl (v := u5) (B := wr.heap.size + 1) (c := 1) (A := some ⟨wr.heap.size, 0, none⟩) (zs := [0]) Tryd.underlying22 HI.out HZ0.out HZ1.out HZ2.out rfl rfl (HO.out.1.alloc _) rfl (IntsAt.new .u8 wr 5 (0, 0) [0]) rfl (by simp [maxLen]; omega) (by omega) (Nat.le_trans HO.out.2.size (by simp)) ?_; intro v2 w3 ho2 hg2 ha2; have hb2 := HO.out.2.trans (((Below.refl w.heap.size wr).alloc HO.out.2.size _).trans ((HO.out.1.alloc _).grownBelow hg2 (Nat.le_trans HO.out.2.size (by simp)))); rw [← HS.out] at ho2; have HQ := Lib.hid (And.intro ho2 hb2); clear ho2 hg2 ha2 hb2 HO)
        go_roundw
        case rel => exact ⟨k + 1, by omega, by go_num, HQ⟩
        case measure => simp [RowKit.intOf]; omega
    · have : k = N := by omega
      subst this
      go_wp2
      go_ret
      exact ⟨_, rfl, HO⟩
end Go.Proofs.YtpfmongenmemdaaDoor.Base
