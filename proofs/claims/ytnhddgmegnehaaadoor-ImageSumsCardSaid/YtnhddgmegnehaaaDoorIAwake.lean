/-
  CONTRACT: the laws' 'awake' (the chapter's examples).
-/
import Derived.Test.YtnhddgmegnehaaaDoorITextW
set_option linter.unusedVariables false
set_option linter.unusedSimpArgs false
namespace Go.Proofs.YtnhddgmegnehaaaDoor.Base
open Go.ChangeShapes Go.WideShapes Go.ChangeAt Go.RowKit Go.Sort Go.Lib Go.Proofs.YtnhddgmegnehaaaDoor.Args Go.Proofs.YtnhddgmegnehaaaDoor.Own
theorem own_addr {k : IntKind} {e : TypeId} {w : World} {base : Nat} {v : Value} {zs : List Int} (h : OwnInts k e w base v zs) (hn : 0 < zs.length) : ∃ g cap, v = .slice (some ⟨g, 0, none⟩) zs.length cap ∧ base ≤ g ∧ g < w.heap.size := by
  rcases h.2 with ⟨_, h0⟩ | ⟨g, cap, cur, rfl, hb, hg, _⟩
  · omega
  · exact ⟨g, cap, rfl, hb, (Array.getElem?_eq_some_iff.1 hg).1⟩
theorem infoU8 : (Tryd.prog.info? 5).map (fun i => (i.zero, i.size, i.bytes)) = some (some (.int .u8 0), 1, 1) := by kernel_rfl
def z128 : List UInt8 := List.replicate 128 0
def five : List UInt8 := withL z128 64 5
theorem u8s_z128 : u8s (List.replicate 128 (0 : Int)) = z128 := by decide +kernel
theorem z128_len : z128.length = 128 := by simp [z128]
theorem five_len : five.length = 128 := by unfold five; rw [withL_length _ _ _ (by rw [z128_len]; omega), z128_len]
def fiveT : List UInt8 := imageT five
theorem fiveT_data : fiveT = [108, 105, 110, 101, 115, 32, 50, 10, 49, 58, 32] ++ List.replicate 15 48 ++ [53, 32] ++ List.replicate 16 48 ++ [32] ++ List.replicate 16 48 ++ [32] ++ List.replicate 16 48 ++ [32] ++ List.replicate 16 48 ++ [32] ++ List.replicate 16 48 ++ [32] ++ List.replicate 16 48 ++ [32] ++ List.replicate 16 48 ++ [10] := by decide +kernel
def z64 : List UInt8 := resizeL z128 1
theorem diff_z : diffAll z64 z128 = [1] := by decide +kernel
theorem z64_len : z64.length = 64 := by decide +kernel
set_option maxHeartbeats 1600000 in
set_option maxRecDepth 100000 in
theorem awake_any (B : Nat) (w : World) (hB : B ≤ w.heap.size) (hpow : Pow B w) (htz : Tz B w) :
    Calls Tryd.prog 10 #[] w fun e w' => e = .returned (.bool true) ∧ Below w.heap.size w w' := by
  have HP := Lib.hid hpow
  have HTZ := Lib.hid htz
  obtain ⟨i0, hi, hz0, hz1, hz2⟩ := info_parts infoU8
  have HI := Lib.hid hi
  have HZ0 := Lib.hid hz0
  have HZ1 := Lib.hid hz1
  have HZ2 := Lib.hid hz2
  clear hi hz0 hz1 hz2 hpow htz
  go_enter Tryd.func10, Tryd.ntmps10
  go_name_bytes TX hTX
  have HTX : Hid (TX = ⟨fiveT.toArray⟩) := Lib.hid (by rw [← hTX, fiveT_data]; decide +kernel)
  clear hTX
  have htx := HTX.out
  clear HTX
  subst htx
  go_wp2_with (at_make; refine wpList_make_full _ rfl _ _ 22 rfl w.heap.size 5 i0 (.int .u8 0) 1 Tryd.underlying22 HI.out HZ0.out HZ1.out .i64 .i64 (128 : Int) (128 : Int) 128 rfl rfl rfl rfl (by rw [HZ2.out]; omega) (by simp [maxLen]) (Nat.le_refl _) ?_; intro w1 ho1 hg1)
  have hown := OwnInts.made ho1
  have hb1 : Below w.heap.size w w1 := (Below.refl _ _).grown hg1 (Nat.le_refl _) (fun k hk => by cases hk)
  obtain ⟨A, c, hv, hc1, hc2, hc3, hr⟩ := OwnInts.form hown
  rw [List.length_replicate] at hv
  injection hv with e1 e2 e3
  subst e1
  subst e3
  have HR := Lib.hid hr
  clear hc1 hc2 hc3 hr e2 hg1 ho1 hown
  have HNw := Lib.hid (new_ok (some ⟨w.heap.size, 0, none⟩) 128 128 w1.heap.size (List.replicate 128 0) w1 (by simp) HR (Nat.le_refl _) (by decide) (by decide))
  rw [u8s_z128] at HNw
  have HWi := Lib.hid (fun w => with_ok z128 64 5 w (by rw [z128_len]; omega) (by omega) (by rw [z128_len]; omega) (by omega))
  rw [show withL z128 64 5 = five from rfl] at HWi
  have HLn := Lib.hid (fun w => lines_any z128 w (by rw [z128_len]; omega))
  rw [z128_len] at HLn
  have HTx := Lib.hid (fun w (h1 : B ≤ w.heap.size) (h2 : Pow B w) (h3 : Tz B w) => text_any B five w (by rw [five_len]) (by rw [five_len]; omega) h1 h2 h3)
  rw [show imageT five = fiveT from rfl] at HTx
  have HRs := Lib.hid (fun w => resize_ok z128 1 w (by rw [z128_len]; omega) (by omega))
  rw [show resizeL z128 1 = z64 from rfl] at HRs
  have HDf := Lib.hid (fun w => diff_any z64 z128 w (by rw [z64_len]; omega) (by rw [z128_len]; omega))
  rw [diff_z] at HDf
  generalize z128 = l at *
  generalize five = l5 at *
  generalize fiveT = t5 at *
  generalize z64 = l6 at *
  go_wp2_with (first
    | (go_at_call 11; go_must (refine HNw.out.mono ?_); rintro e w2 ⟨rfl, hb2⟩; refine Hid.out ?_))
  have hb02 := hb1.trans (hb2.mono hb1.size)
  have HB2 := Lib.hid hb02
  clear hb2 hb02 hb1 HNw HR
  -- i
  obtain ⟨wi, hwi⟩ : ∃ wi, w2.alloc (.cells #[str l] 25) = wi := ⟨_, rfl⟩
  have ci : wi.cell? ⟨w2.heap.size, 0, none⟩ = some (str l) := by rw [← hwi, World.cell?_alloc_new]; rfl
  have hzi : w2.heap.size < wi.heap.size := by rw [← hwi]; simp
  have HBi : Hid (Below w.heap.size w wi) := Lib.hid (by rw [← hwi]; exact HB2.out.alloc HB2.out.size _)
  have HWI := Lib.hid hwi
  clear hwi
  refine Lib.hid ?_
  go_wp2_with (go_at_call 17; refine Hid.out ?_)
  rw [HWI.out]
  refine Lib.hid ?_
  go_wp2_with (go_at_call 17; go_must (refine (HWi.out _).mono ?_); rintro e w3 ⟨rfl, hb3⟩; refine Hid.out ?_)
  have ci3 := (hb3.cell (p := ⟨w2.heap.size, 0, none⟩) hzi).trans ci
  have hzi3 : w2.heap.size < w3.heap.size := Nat.lt_of_lt_of_le hzi hb3.size
  have HB3 := Lib.hid (HBi.out.trans (hb3.mono HBi.out.size))
  clear hb3 ci hzi
  -- j
  obtain ⟨wj, hwj⟩ : ∃ wj, w3.alloc (.cells #[str l5] 25) = wj := ⟨_, rfl⟩
  have hbj : Below w3.heap.size w3 wj := by rw [← hwj]; exact (Below.refl _ _).alloc (Nat.le_refl _) _
  have cj : wj.cell? ⟨w3.heap.size, 0, none⟩ = some (str l5) := by rw [← hwj, World.cell?_alloc_new]; rfl
  have cij := (hbj.cell (p := ⟨w2.heap.size, 0, none⟩) hzi3).trans ci3
  have hzj : w3.heap.size < wj.heap.size := by rw [← hwj]; simp
  have HBj := Lib.hid (HB3.out.trans (hbj.mono HB3.out.size))
  have HWJ := Lib.hid hwj
  clear hwj hbj
  refine Lib.hid ?_
  go_wp2_with (go_at_call 12; refine Hid.out ?_)
  rw [HWJ.out]
  refine Lib.hid ?_
  go_wp2_with (first
    | (go_at_call 12; go_must (refine (HLn.out _).mono ?_); rintro e w4 ⟨rfl, hb4⟩; have ci4 := (hb4.cell (p := ⟨w2.heap.size, 0, none⟩) (Nat.lt_of_lt_of_le hzi3 (Nat.le_of_lt hzj))).trans cij; have cj4 := (hb4.cell (p := ⟨w3.heap.size, 0, none⟩) hzj).trans cj; have hzj4 : w3.heap.size < w4.heap.size := Nat.lt_of_lt_of_le hzj hb4.size; have HB4 := Lib.hid (HBj.out.trans (hb4.mono HBj.out.size)); clear hb4)
    | (go_at_call 35; go_must (refine (HTx.out _ (Nat.le_trans hB HB4.out.size) (HP.out.on (HB4.out.mono hB)) (HTZ.out.on (HB4.out.mono hB))).mono ?_); rintro e w5 ⟨rfl, hb5⟩; have ci5 := (hb5.cell (p := ⟨w2.heap.size, 0, none⟩) (Nat.lt_trans hzi3 hzj4)).trans ci4; have hzj5 : w3.heap.size < w5.heap.size := Nat.lt_of_lt_of_le hzj4 hb5.size; have HB5 := Lib.hid (HB4.out.trans (hb5.mono HB4.out.size)); clear hb5; refine Hid.out ?_))
  refine Lib.hid ?_
  go_wp2_with (go_at_call 21; go_must (refine (HRs.out _).mono ?_); rintro e w6 ⟨rfl, hb6⟩; have ci6 := (hb6.cell (p := ⟨w2.heap.size, 0, none⟩) (Nat.lt_trans hzi3 hzj5)).trans ci5; have hzj6 : w3.heap.size < w6.heap.size := Nat.lt_of_lt_of_le hzj5 hb6.size; have HB6 := Lib.hid (HB5.out.trans (hb6.mono HB5.out.size)); clear hb6; refine Hid.out ?_)
  have hzi6 : w2.heap.size < w6.heap.size := Nat.lt_trans hzi3 hzj6
  clear ci3 cij cj hzj HLn HTx hzj4 hzj5 hzj6 hzi3 ci4 cj4 ci5
  refine Lib.hid ?_
  go_wp2_with (go_at_call 25; refine Hid.out ?_)
  refine Lib.hid ?_
  go_wp2_with (go_at_call 25; go_must (refine (HDf.out _).mono ?_); rintro e w8 ⟨v, rfl, HO8⟩; refine Hid.out ?_)
  have HB7 : Hid (Below w.heap.size w (w6.alloc (.cells #[str l6] 25))) := Lib.hid (HB6.out.alloc HB6.out.size _)
  obtain ⟨g, c8, hv8, hg8, hcc⟩ := own_addr HO8.out.1 (by decide)
  rw [show [(1 : Int)].length = 1 from rfl] at hv8
  subst hv8
  have c80 := (OwnInts.cell HO8.out.1 0 (by decide)).1
  refine Lib.hid ?_
  go_wp2
  go_ret
  exact ⟨rfl, HB7.out.trans (HO8.out.2.mono HB7.out.size)⟩
end Go.Proofs.YtnhddgmegnehaaaDoor.Base
