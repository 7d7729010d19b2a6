/-
  CONTRACTS: Bytes; the laws' whole and same; the reference's Bad.
-/
import Derived.Test.YtnhddgmegnehaaaDoorINew
import Derived.Lib.ConvBytes
import Derived.Lib.AtoiErrMem
set_option linter.unusedVariables false
set_option linter.unusedSimpArgs false
namespace Go.Proofs.YtnhddgmegnehaaaDoor.Base
open Go.ChangeShapes Go.WideShapes Go.ChangeAt Go.RowKit Go.Sort Go.Lib Go.Proofs.YtnhddgmegnehaaaDoor.Args Go.Proofs.YtnhddgmegnehaaaDoor.Own
/-- bytes as a row's numbers. -/
def ints (l : List UInt8) : List Int := l.map fun b => (b.toNat : Int)
theorem ints_length (l : List UInt8) : (ints l).length = l.length := by simp [ints]
theorem u8s_ints (l : List UInt8) : u8s (ints l) = l := by
  unfold u8s ints
  rw [List.map_map]
  induction l with
  | nil => rfl
  | cons b l ih => simp only [List.map_cons, Function.comp_apply]; rw [ih]; simp
theorem ints_u8s {zs : List Int} (hw : ∀ z ∈ zs, (Lit.int .u8 z).wf = true) : ints (u8s zs) = zs := by
  unfold u8s ints
  rw [List.map_map]
  induction zs with
  | nil => rfl
  | cons z zs ih =>
    have h := wf_u8 (hw z (by simp))
    simp only [List.map_cons, Function.comp_apply]
    rw [ih fun y hy => hw y (by simp [hy])]
    congr 1
    rw [UInt8.toNat_ofNat']
    omega
structure NewRow (w : World) (l : List UInt8) (g : Nat) (w' : World) : Prop where
  at_ : IntsAt .u8 w' (g + 1) (some ⟨g, 0, none⟩) (ints l)
  fr : ∀ j, j < l.length → w'.frozen? ⟨g, j, none⟩ = false
  lo : w.heap.size ≤ g
  hi : g < w'.heap.size
  bb : Below w.heap.size w w'
theorem newRow_conv (w W1 : World) (l : List UInt8) (h1 : Below w.heap.size w W1) : NewRow w l W1.heap.size (bytesWorld W1 5 ⟨l.toArray⟩) := by
  refine ⟨fun i hi => ⟨_, rfl, Nat.lt_succ_self _, ?_⟩, fun j hj => ?_, h1.size, by rw [bytesWorld_size]; omega, h1.trans ((bytesWorld_below _ _ _).mono h1.size)⟩
  · rw [ints_length] at hi
    rw [addr_add, bytesWorld_cell W1 _ _ i (by rw [str_size]; exact hi)]
    simp [ints, List.getD, hi]
  · have hs : (bytesCells W1 5 ⟨l.toArray⟩).size ≥ l.length := by unfold bytesCells; simp
    simp only [World.frozen?, bytesWorld_at_new]
    generalize (bytesCells W1 5 ⟨l.toArray⟩).size = m at *
    simp
    omega
set_option maxRecDepth 100000 in
theorem bytes_any (l : List UInt8) (w : World) (hl : l.length ≤ 4294967295) :
    Calls Tryd.prog 14 #[img l] w fun e w' => ∃ g c, e = .returned (.slice (some ⟨g, 0, none⟩) l.length c) ∧ Hid (NewRow w l g w') := by
  have hcell : (w.alloc (.cells #[str l] 25)).cell? ⟨w.heap.size, 0, none⟩ = some (str l) := by rw [World.cell?_alloc_new]; rfl
  have hb : Below w.heap.size w (w.alloc (.cells #[str l] 25)) := (Below.refl _ _).alloc (Nat.le_refl _) _
  have hcv := Go.Lib.run_convert_string_bytes (P := Tryd.prog) (w.alloc (.cells #[str l] 25)) 9 22 5 ⟨l.toArray⟩ Tryd.underlying9 Tryd.underlying22 Tryd.underlying5
  rw [str_size] at hcv
  have HN := Lib.hid (newRow_conv w _ l hb)
  go_enter Tryd.func14, Tryd.ntmps14
  go_wp2
  go_ret
  exact ⟨_, _, rfl, by simpa using HN⟩
set_option maxRecDepth 100000 in
theorem whole_any (A : Option Addr) (n c : Nat) (w : World) (hn : n ≤ c) (hc : c ≤ 140737488351232) :
    Calls Tryd.prog 15 #[.slice A n c] w fun e w' => e = .returned (.slice A (64 * min (n / 64) 40) c) ∧ w' = w := by
  obtain ⟨m, hm⟩ : ∃ m, n / 64 = m := ⟨_, rfl⟩
  rw [hm]
  have hw1 : wrap64 ((n : Int) / 64) = (m : Int) := by unfold wrap64; omega
  by_cases h : 40 < m
  · have e : 64 * min m 40 = 2560 := by omega
    rw [e]
    have hi : (40 : Int) < (m : Int) := by omega
    have hnc : 2560 ≤ c := by omega
    clear e hm hn h
    go_enter Tryd.func15, Tryd.ntmps15
    go_wp2
    all_goals first | (exfalso; omega) | (go_ret; exact ⟨rfl, rfl⟩)
  · have e : 64 * min m 40 = 64 * m := by omega
    rw [e]
    have hi : (m : Int) ≤ (40 : Int) := by omega
    have hi2 : ¬ (40 : Int) < (m : Int) := by omega
    have hnc : 64 * m ≤ c := by omega
    have hw2 : wrap64 ((64 : Int) * (m : Int)) = ((64 * m : Nat) : Int) := by unfold wrap64; omega
    have hnc2 : ((64 * m : Nat) : Int) ≤ (c : Int) := by omega
    clear e hm hn h
    go_enter Tryd.func15, Tryd.ntmps15
    go_wp2
    all_goals first | (exfalso; omega) | (go_ret; exact ⟨rfl, rfl⟩)
theorem bad_any (A : Option Addr) (n c : Nat) (l : List UInt8) (off : Int) (w : World) (hl : l.length = n) (hn : n ≤ 4294967295) (h0 : 0 ≤ off) (h1 : off ≤ 18446744073709551615) :
    Calls Tryd.prog 18 #[.slice A n c, .int .u64 off] w fun e w' => e = .returned (.int .i64 (cErr l off)) ∧ w' = w := by
  by_cases hz : off % 8 = 0
  · have h2 := Lib.hid (@cErr_two l off hz)
    have h3 := Lib.hid (@cErr_ok l off hz)
    rw [hl] at h2 h3
    go_enter Tryd.func18, Tryd.ntmps18
    go_wp2
    all_goals (go_ret; refine ⟨ret_int ?_, rfl⟩; first | exact (h2.out (by omega)).symm | exact (h3.out (by omega)).symm)
  · have h2 := Lib.hid (@cErr_one l off hz)
    have hz2 : (off % 8 != 0) = true := by simpa using hz
    clear hz
    go_enter Tryd.func18, Tryd.ntmps18
    go_wp2
    go_ret; exact ⟨ret_int h2.out.symm, rfl⟩
set_option maxHeartbeats 800000 in
set_option maxRecDepth 100000 in
theorem same_any (A : Option Addr) (n c B : Nat) (zs : List Int) (l : List UInt8) (w : World) (hlz : l = u8s zs) (hl : zs.length = n) (hr : Hid (IntsAt .u8 w B A zs)) (hB : B ≤ w.heap.size) (hn : n ≤ 4294967295) :
    Calls Tryd.prog 13 #[img l, .slice A n c] w fun e w' => e = .returned (.bool true) ∧ Below w.heap.size w w' := by
  subst hlz
  have hl2 : (u8s zs).length = n := by rw [u8s_length, hl]
  obtain ⟨m, hm⟩ : ∃ m, n / 64 = m := ⟨_, rfl⟩
  have hdiv2 : (m : Int) = (n : Int) / 64 := by omega
  have hdiv : wrap64 ((n : Int) / 64) = (m : Int) := by unfold wrap64; omega
  obtain ⟨w0, hw0⟩ : ∃ w0, w.alloc (.cells #[str (u8s zs)] 25) = w0 := ⟨_, rfl⟩
  have hcell : w0.cell? ⟨w.heap.size, 0, none⟩ = some (str (u8s zs)) := by rw [← hw0, World.cell?_alloc_new]; rfl
  have hz0 : w.heap.size < w0.heap.size := by rw [← hw0]; simp
  have HB0 : Hid (Below w.heap.size w w0) := Lib.hid (by rw [← hw0]; exact (Below.refl _ _).alloc (Nat.le_refl _) _)
  have HBy := Lib.hid (fun w => bytes_any (u8s zs) w (by omega))
  have HLn := Lib.hid (fun w => lines_any (u8s zs) w (by omega))
  rw [hl2, hm] at HLn
  rw [hl2] at HBy
  clear hm
  have HL := Lib.hid hl
  have HE := Lib.hid (u8s_ints (u8s zs))
  have HLI : Hid ((ints (u8s zs)).length = n) := Lib.hid (by rw [ints_length, hl2])
  have HX1 : Hid (∀ g c1 w1 w2, Hid (NewRow w0 (u8s zs) g w1) → Hid (Below w1.heap.size w1 w2) → (convert 22 9 (.slice (some ⟨g, 0, none⟩) n c1)).run Tryd.prog w2 = .ok (.string ⟨(u8s zs).toArray⟩) w2) := Lib.hid (fun g c1 w1 w2 HR HB2 => by
    have hh := conv_u8s (c := c1) (HR.out.at_.below (HB2.out.mono (by have := HR.out.hi; omega))) HLI.out
    rw [u8s_ints] at hh
    exact hh)
  have HX2 : Hid (∀ g w1 w2, Hid (NewRow w0 (u8s zs) g w1) → Hid (Below w1.heap.size w1 w2) → (convert 22 9 (.slice A n c)).run Tryd.prog w2 = .ok (.string ⟨(u8s zs).toArray⟩) w2) := Lib.hid (fun g w1 w2 HR HB2 =>
    conv_u8s (c := c) (((hr.out.below (HB0.out.mono hB)).below (HR.out.bb.mono (Nat.le_trans hB HB0.out.size))).below (HB2.out.mono (Nat.le_trans hB (Nat.le_trans HB0.out.size HR.out.bb.size)))) HL.out)
  generalize u8s zs = l at *
  have HW0 := Lib.hid hw0
  clear hl hl2 hw0
  go_enter Tryd.func13, Tryd.ntmps13
  go_wp2_with (go_at_call 14; refine Hid.out ?_)
  rw [HW0.out]
  refine Lib.hid ?_
  go_wp2_with (first
    | (go_at_call 14; go_must (refine (HBy.out _).mono ?_); rintro e w1 ⟨g, c1, rfl, HR⟩; have q1 := (HR.out.bb.cell (p := ⟨w.heap.size, 0, none⟩) hz0).trans hcell)
    | (go_at_call 12; go_must (refine (HLn.out _).mono ?_); rintro e w2 ⟨rfl, hb2⟩; have HB2 := Lib.hid hb2; clear hb2; have hx1 := HX1.out g c1 w1 w2 HR HB2; have hx2 := HX2.out g w1 w2 HR HB2))
  all_goals first
    | (exfalso; omega)
    | (clear hx1 hx2 q1 hcell hdiv hdiv2 HX1 HX2 HBy HLn
       go_ret
       exact ⟨ret_bool (by simp), HB0.out.trans (HR.out.bb.trans (HB2.out.mono HR.out.bb.size) |>.mono HB0.out.size)⟩)
end Go.Proofs.YtnhddgmegnehaaaDoor.Base
