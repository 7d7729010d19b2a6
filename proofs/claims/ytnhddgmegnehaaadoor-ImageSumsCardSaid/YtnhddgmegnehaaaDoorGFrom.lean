/-
  From, of the device.
-/
import Derived.Test.YtnhddgmegnehaaaDoorGDecode
import Derived.Test.YtnhddgmegnehaaaDoorDOk
import Derived.Test.YtnhddgmegnehaaaDoorDFrame
import Derived.Deep.Cut
set_option linter.unusedVariables false
set_option linter.unusedSimpArgs false
namespace Go.Proofs.YtnhddgmegnehaaaDoor.Dev
open Go.ChangeShapes Go.WideShapes Go.ChangeAt Go.RowKit Go.Proofs.YtnhddgmegnehaaaDoor.Mem Go.Proofs.YtnhddgmegnehaaaDoor.Args Go.Proofs.YtnhddgmegnehaaaDoor.Own Go.Proofs.YtnhddgmegnehaaaDoor.PackMath
theorem IntsAt.drop {k : IntKind} {w : World} {B : Nat} {a : Addr} {zs : List Int} (h : IntsAt k w B (some a) zs) (m : Nat) : IntsAt k w B (some (a.add m)) (zs.drop m) := fun i hi => by
  rw [List.length_drop] at hi
  obtain ⟨ad, e, hb, hc⟩ := h (m + i) (by omega)
  cases e
  refine ⟨a.add m, rfl, by rw [add_block]; exact hb, ?_⟩
  rw [add_add, hc]
  simp [List.getD, List.getElem?_drop]
theorem wordOf_drop (zs : List Int) (k j : Nat) : wordOf (zs.drop (64 * k)) j = wordOf zs (8 * k + j) := by
  unfold wordOf pkw
  rw [List.drop_drop, show 64 * k + 8 * j = 8 * (8 * k + j) by omega]
theorem fromK_hist (zs : List Int) (n k i : Nat) : (St.fromK zs n k).hist i = [] := rfl
section
variable {w w' : World} {base : Nat} {A : Adr} {S S' : St}
/-- One line was written, its history is none. -/
theorem IsDev.lineNil (h : IsDev w base A S) {l : Nat} (hl : l < S.n) (hn : S'.n = S.n) (hnt : S'.notes = S.notes) (her : S'.err = S.err) (hex : S'.ex = S.ex) (hof : S'.off = S.off) (hle : S'.left = S.left)
    (hot : ∀ i, i ≠ l → S'.pers i = S.pers i ∧ S'.hist i = S.hist i ∧ S'.gone i = S.gone i) (hh0 : S'.hist l = []) (g' : Nat → Value) (hB : Blk w' A.lb 81 (S.n * 18) g') (hg : ∀ o, (o < l * 18 ∨ l * 18 + 18 ≤ o) → g' o = linesG A S o)
    (h1 : ∀ j, j < 8 → g' (l * 18 + j) = wordG (S'.pers l) j) (h2 : ∀ j, j < 8 → g' (l * 18 + 8 + j) = wordG (S'.cur l) j) (h3 : g' (l * 18 + 16) = .slice none 0 0) (h4 : g' (l * 18 + 17) = .int .u64 (S'.gone l : Int))
    (ho : Only (fun b => b = A.lb) w w') : IsDev w' base { A with hv := fun i => if i = l then .slice none 0 0 else A.hv i } S' := by
  refine ⟨?_, ?_, fun i hi => ?_, fun t ht => ?_, ?_, h.bd, h.bl⟩
  · have := ho.blk h.dev (fun e => h.apart.dl e)
    refine this.ext fun o _ => ?_
    unfold devG
    simp only [hn, her, hex, hof, hle]
  · rw [hn]
    refine hB.ext fun o ho' => ?_
    by_cases e : o / 18 = l
    · have e2 : o = l * 18 + o % 18 := by omega
      unfold linesG
      simp only
      by_cases k1 : o % 18 < 8
      · rw [if_pos k1, e, e2, h1 _ k1, show (l * 18 + o % 18) % 18 = o % 18 by omega]
      · by_cases k2 : o % 18 < 16
        · rw [if_neg k1, if_pos k2, e, show g' o = g' (l * 18 + 8 + (o % 18 - 8)) by congr 1; omega, h2 _ (by omega)]
        · by_cases k3 : o % 18 = 16
          · rw [if_neg k1, if_neg k2, if_pos k3, e, if_pos rfl, show g' o = g' (l * 18 + 16) by congr 1; omega, h3]
          · rw [if_neg k1, if_neg k2, if_neg k3, e, show g' o = g' (l * 18 + 17) by congr 1; omega, h4]
    · rw [hg o (by omega)]
      obtain ⟨a1, a2, a3⟩ := hot _ e
      exact linesG_ext a1 a2 a3 (by simp only; rw [if_neg e])
  · rw [hn] at hi
    by_cases e : i = l
    · subst e; simp only [if_true]; rw [hh0]; exact Hist.nil_ _ _
    · simp only [if_neg e]
      rw [(hot i e).2.1]
      exact (h.hist i hi).only ho fun b hb hx => h.apart.hl i hi (by rw [hb, hx])
  · rw [hnt, hex]
    rcases h.maps t ht with m1 | ⟨b, m1, m2, m3⟩
    · exact .inl m1
    · exact .inr ⟨b, m1, m2, m3.of_block (ho.block b (h.ownLt b (.inr (.inr (.inr ⟨t, ht, m1⟩)))) fun e => h.apart.ml t ht (by rw [m1, e]))⟩
  · rw [hn]
    refine ⟨h.apart.dl, fun i hi => ?_, fun i hi => ?_, fun i j hi hj hne b hb => ?_, h.apart.md, h.apart.ml, fun t i ht hi b hb => ?_, h.apart.mm⟩
    · simp only
      split
      · intro e; cases e
      · exact h.apart.hd i hi
    · simp only
      split
      · intro e; cases e
      · exact h.apart.hl i hi
    · simp only at hb ⊢
      by_cases e1 : i = l
      · rw [if_pos e1] at hb; cases hb
      · rw [if_neg e1] at hb
        by_cases e2 : j = l
        · rw [if_pos e2]; intro e; cases e
        · rw [if_neg e2]; exact h.apart.hh i j hi hj hne b hb
    · simp only
      split
      · intro e; cases e
      · exact h.apart.mh t i ht hi b hb
end
theorem fromK_pers (zs : List Int) (n k j : Nat) : (St.fromK zs n (k + 1)).pers k j = wordOf zs (8 * k + j) := by
  show (if k < k + 1 then wordOf zs (8 * k + j) else 0) = _
  rw [if_pos (by omega)]
theorem fromK_other (zs : List Int) (n k i : Nat) (h : i ≠ k) : (St.fromK zs n (k + 1)).pers i = (St.fromK zs n k).pers i := by
  funext j
  show (if i < k + 1 then _ else _) = (if i < k then _ else _)
  by_cases h1 : i < k
  · rw [if_pos h1, if_pos (by omega)]
  · rw [if_neg h1, if_neg (by omega)]
set_option maxRecDepth 100000 in
set_option maxHeartbeats 1000000 in
theorem dfrom_any (w : World) (P : Option Addr) (len c B n : Nat) (zs : List Int) (hl : zs.length = len) (hln : len = 64 * n) (h0 : 1 ≤ n) (h1 : n ≤ 4096) (hlc : len ≤ c) (hc : c ≤ maxLen) (hr : IntsAt .u8 w B P zs) (hB : B ≤ w.heap.size) (hz : ∀ z ∈ zs, 0 ≤ z ∧ z ≤ 255) :
    Calls Tryd.prog 42 #[.slice P len c] w fun e w' => ∃ A : Adr, e = .returned (.tuple #[.pointer (some ⟨A.d, 0, none⟩), .int .i64 0]) ∧ Hid (IsDev w' w.heap.size A (St.fromK zs n n) ∧ Below w.heap.size w w') := by
  have HL := Lib.hid hl
  have HR := Lib.hid hr
  have HZ := Lib.hid hz
  have hcl : c ≤ 9223372036854775807 := by unfold maxLen at hc; omega
  have hm1 : (len : Int) % 64 = 0 := by omega
  have hm2 : (len : Int).tmod 64 = 0 := by rw [Int.tmod_eq_emod_of_nonneg (by omega)]; exact hm1
  have hq1 : (len : Int) / 64 = (n : Int) := by omega
  have hq2 : (len : Int).tdiv 64 = (n : Int) := by rw [Int.tdiv_eq_ediv_of_nonneg (by omega)]; exact hq1
  have HMAX := Lib.hid hc
  have HNE := Lib.hid (new_any w n h0 h1)
  have HLN := Lib.hid hln
  clear hl hr hz hc hln
  go_enter Tryd.func42, Tryd.ntmps42
  go_wp2_with (go_at_call 56; go_must (refine HNE.out.mono ?_); rintro e w1 ⟨A, rfl, H1⟩; have c0 : w1.cell? ⟨A.d, 0, none⟩ = some (.slice (some ⟨A.lb, 0, none⟩) n A.cap) := H1.out.1.db.c0)
  clear hm1 hm2 hq1 hq2 c0
  go_loopw [27] (fun i wr => ∃ k : Nat, k ≤ n ∧ i = .int .i64 k ∧ Hid (∃ A' : Adr, A'.d = A.d ∧ A'.lb = A.lb ∧ IsDev wr w.heap.size A' (St.fromK zs n k) ∧ Below w.heap.size w wr)) (fun i _ => n - (intOf i).toNat)
  case atStart => exact ⟨0, by omega, rfl, Lib.hid ⟨A, rfl, rfl, by rw [St.fromK_zero]; exact H1.out.1, H1.out.2⟩⟩
  case round =>
    obtain ⟨k, hk, rfl, HO⟩ := hrel
    obtain ⟨A', ed, el, hdev, hbw⟩ := HO.out
    have HD := Lib.hid hdev
    have HBW := Lib.hid hbw
    have HED := Lib.hid ed
    have HEL := Lib.hid el
    by_cases hkn : k < n
    · have hki : (k : Int) < (n : Int) := by omega
      obtain ⟨ad, rfl, hadb, _⟩ := HR.out (64 * k) (by rw [HL.out, HLN.out]; omega)
      obtain ⟨q, hq⟩ : ∃ q, 64 * k = q := ⟨_, rfl⟩
      have hqi : IntKind.i64.wrap ((k : Int) * 64) = (q : Int) := by rw [IntWalk.i64_in _ (by have := HLN.out; omega)]; omega
      have hqn : q + 64 ≤ len := by rw [HLN.out]; omega
      have HQ := Lib.hid hq
      have hql : (q : Int) ≤ (len : Int) := by omega
      have HDE : Hid (Calls Tryd.prog 57 #[.slice (some (ad.add q)) (len - q) (c - q)] wr fun r w' => r = .returned (words8 (wordOf (zs.drop q))) ∧ Hid (Below wr.heap.size wr w')) := Lib.hid (by
        refine decode_any wr _ _ _ w.heap.size (zs.drop q) (by rw [List.length_drop, HL.out]) (by omega) (by omega) (by have := HMAX.out; omega) (Lib.hid ?_) hbw.size (Lib.hid fun z hz => HZ.out z (List.mem_of_mem_drop hz))
        exact IntsAt.below ((IntsAt.drop HR.out q).more hB) hbw)
      have c0 : wr.cell? ⟨A.d, 0, none⟩ = some (.slice (some ⟨A.lb, 0, none⟩) n A'.cap) := by rw [← ed, ← el]; exact hdev.db.c0
      clear HO ed el hdev hbw hq
      go_upto_region 10 with (go_at_call 57; go_must (refine HDE.out.mono ?_); rintro e w2 ⟨he, H2⟩; simp only [words8, wordG] at he; subst he)
      have HFW : Hid (∀ j, wordOf (zs.drop q) j = wordOf zs (8 * k + j)) := Lib.hid fun j => by rw [← HQ.out]; exact wordOf_drop zs k j
      obtain ⟨F, hF⟩ : ∃ F, (fun j => wordOf (zs.drop q) j) = F := ⟨_, rfl⟩
      have hFj : ∀ j, wordOf (zs.drop q) j = F j := fun j => by rw [← hF]
      simp only [hFj]
      have HFF : Hid (∀ j, F j = wordOf zs (8 * k + j)) := Lib.hid fun j => by rw [← hFj]; exact HFW.out j
      clear hF hFj HFW HDE
      obtain ⟨wa, hwa⟩ : ∃ wa, wa = w2.alloc (.cells #[.int .u64 (F 0 : Int), .int .u64 (F 1 : Int), .int .u64 (F 2 : Int), .int .u64 (F 3 : Int), .int .u64 (F 4 : Int), .int .u64 (F 5 : Int), .int .u64 (F 6 : Int), .int .u64 (F 7 : Int)] 78) := ⟨_, rfl⟩
      rw [← hwa]
      have hwb : Blk wa w2.heap.size 78 8 (wordG F) := by rw [hwa]; exact words_blk w2 _ F _ rfl
      have hba : Below wr.heap.size wr wa := by rw [hwa]; exact H2.out.alloc H2.out.size _
      have HID : Hid (IsDev wa.drew w.heap.size A' (St.fromK zs n k)) := Lib.hid ((HD.out.below hba (Nat.le_refl _)).below (Below.refl wa.heap.size wa).drew (Nat.le_refl _))
      have HBL : Hid (Blk wa.drew A.lb 81 (n * 18) (linesG A' (St.fromK zs n k))) := Lib.hid (by rw [← HEL.out]; exact HID.out.lines)
      have HB2 : Hid (Below w.heap.size w wa.drew) := Lib.hid (HBW.out.trans (hba.drew.mono HBW.out.size))
      have c0a : wa.cell? ⟨A.d, 0, none⟩ = some (.slice (some ⟨A.lb, 0, none⟩) n A'.cap) := by rw [← HED.out, ← HEL.out]; exact (HD.out.below hba (Nat.le_refl _)).db.c0
      have f0 : wa.cell? ⟨w2.heap.size, 0, none⟩ = some (.int .u64 (F 0 : Int)) := hwb.cell (o := 0) (by decide)
      have f1 : wa.cell? ⟨w2.heap.size, 1, none⟩ = some (.int .u64 (F 1 : Int)) := hwb.cell (o := 1) (by decide)
      have f2 : wa.cell? ⟨w2.heap.size, 2, none⟩ = some (.int .u64 (F 2 : Int)) := hwb.cell (o := 2) (by decide)
      have f3 : wa.cell? ⟨w2.heap.size, 3, none⟩ = some (.int .u64 (F 3 : Int)) := hwb.cell (o := 3) (by decide)
      have f4 : wa.cell? ⟨w2.heap.size, 4, none⟩ = some (.int .u64 (F 4 : Int)) := hwb.cell (o := 4) (by decide)
      have f5 : wa.cell? ⟨w2.heap.size, 5, none⟩ = some (.int .u64 (F 5 : Int)) := hwb.cell (o := 5) (by decide)
      have f6 : wa.cell? ⟨w2.heap.size, 6, none⟩ = some (.int .u64 (F 6 : Int)) := hwb.cell (o := 6) (by decide)
      have f7 : wa.cell? ⟨w2.heap.size, 7, none⟩ = some (.int .u64 (F 7 : Int)) := hwb.cell (o := 7) (by decide)
      have hk0 : (0 : Int) ≤ (k : Int) := by omega
      have hwk : IntKind.i64.wrap (k : Int) = (k : Int) := IntWalk.i64_in _ (by omega)
      clear hwb hba hwa H2 c0
      go_still_tail 9, (by kernel_rfl)
      repeat still_step
      try refine wpStill_nil ?_
      change wpList _ _ _ _ _ wa.drew
      clear f0 f1 f2 f3 f4 f5 f6 f7 c0a
      generalize wa.drew = wd at *
      have l0 := HBL.out.cell (o := k * 18) (by omega)
      have z0 := HBL.out.frozen (k * 18)
      have l1 := HBL.out.cell (o := k * 18 + 1) (by omega)
      have z1 := HBL.out.frozen (k * 18 + 1)
      have l2 := HBL.out.cell (o := k * 18 + 2) (by omega)
      have z2 := HBL.out.frozen (k * 18 + 2)
      have l3 := HBL.out.cell (o := k * 18 + 3) (by omega)
      have z3 := HBL.out.frozen (k * 18 + 3)
      have l4 := HBL.out.cell (o := k * 18 + 4) (by omega)
      have z4 := HBL.out.frozen (k * 18 + 4)
      have l5 := HBL.out.cell (o := k * 18 + 5) (by omega)
      have z5 := HBL.out.frozen (k * 18 + 5)
      have l6 := HBL.out.cell (o := k * 18 + 6) (by omega)
      have z6 := HBL.out.frozen (k * 18 + 6)
      have l7 := HBL.out.cell (o := k * 18 + 7) (by omega)
      have z7 := HBL.out.frozen (k * 18 + 7)
      have l8 := HBL.out.cell (o := k * 18 + 8) (by omega)
      have z8 := HBL.out.frozen (k * 18 + 8)
      have l9 := HBL.out.cell (o := k * 18 + 9) (by omega)
      have z9 := HBL.out.frozen (k * 18 + 9)
      have l10 := HBL.out.cell (o := k * 18 + 10) (by omega)
      have z10 := HBL.out.frozen (k * 18 + 10)
      have l11 := HBL.out.cell (o := k * 18 + 11) (by omega)
      have z11 := HBL.out.frozen (k * 18 + 11)
      have l12 := HBL.out.cell (o := k * 18 + 12) (by omega)
      have z12 := HBL.out.frozen (k * 18 + 12)
      have l13 := HBL.out.cell (o := k * 18 + 13) (by omega)
      have z13 := HBL.out.frozen (k * 18 + 13)
      have l14 := HBL.out.cell (o := k * 18 + 14) (by omega)
      have z14 := HBL.out.frozen (k * 18 + 14)
      have l15 := HBL.out.cell (o := k * 18 + 15) (by omega)
      have z15 := HBL.out.frozen (k * 18 + 15)
      have l16 := HBL.out.cell (o := k * 18 + 16) (by omega)
      have z16 := HBL.out.frozen (k * 18 + 16)
      have l17 := HBL.out.cell (o := k * 18 + 17) (by omega)
      have z17 := HBL.out.frozen (k * 18 + 17)
      have HS : Hid (∃ A'' : Adr, A''.d = A.d ∧ A''.lb = A.lb ∧ IsDev ((((((((((((((((((wd.setCell ⟨A.lb, k * 18, none⟩ (.int .u64 (F 0 : Int))).setCell ⟨A.lb, k * 18 + 1, none⟩ (.int .u64 (F 1 : Int))).setCell ⟨A.lb, k * 18 + 2, none⟩ (.int .u64 (F 2 : Int))).setCell ⟨A.lb, k * 18 + 3, none⟩ (.int .u64 (F 3 : Int))).setCell ⟨A.lb, k * 18 + 4, none⟩ (.int .u64 (F 4 : Int))).setCell ⟨A.lb, k * 18 + 5, none⟩ (.int .u64 (F 5 : Int))).setCell ⟨A.lb, k * 18 + 6, none⟩ (.int .u64 (F 6 : Int))).setCell ⟨A.lb, k * 18 + 7, none⟩ (.int .u64 (F 7 : Int))).setCell ⟨A.lb, k * 18 + 8, none⟩ (.int .u64 (F 0 : Int))).setCell ⟨A.lb, k * 18 + 9, none⟩ (.int .u64 (F 1 : Int))).setCell ⟨A.lb, k * 18 + 10, none⟩ (.int .u64 (F 2 : Int))).setCell ⟨A.lb, k * 18 + 11, none⟩ (.int .u64 (F 3 : Int))).setCell ⟨A.lb, k * 18 + 12, none⟩ (.int .u64 (F 4 : Int))).setCell ⟨A.lb, k * 18 + 13, none⟩ (.int .u64 (F 5 : Int))).setCell ⟨A.lb, k * 18 + 14, none⟩ (.int .u64 (F 6 : Int))).setCell ⟨A.lb, k * 18 + 15, none⟩ (.int .u64 (F 7 : Int))).setCell ⟨A.lb, k * 18 + 16, none⟩ (.slice none 0 0)).setCell ⟨A.lb, k * 18 + 17, none⟩ (.int .u64 0)) w.heap.size A'' (St.fromK zs n (k + 1)) ∧ Below w.heap.size w ((((((((((((((((((wd.setCell ⟨A.lb, k * 18, none⟩ (.int .u64 (F 0 : Int))).setCell ⟨A.lb, k * 18 + 1, none⟩ (.int .u64 (F 1 : Int))).setCell ⟨A.lb, k * 18 + 2, none⟩ (.int .u64 (F 2 : Int))).setCell ⟨A.lb, k * 18 + 3, none⟩ (.int .u64 (F 3 : Int))).setCell ⟨A.lb, k * 18 + 4, none⟩ (.int .u64 (F 4 : Int))).setCell ⟨A.lb, k * 18 + 5, none⟩ (.int .u64 (F 5 : Int))).setCell ⟨A.lb, k * 18 + 6, none⟩ (.int .u64 (F 6 : Int))).setCell ⟨A.lb, k * 18 + 7, none⟩ (.int .u64 (F 7 : Int))).setCell ⟨A.lb, k * 18 + 8, none⟩ (.int .u64 (F 0 : Int))).setCell ⟨A.lb, k * 18 + 9, none⟩ (.int .u64 (F 1 : Int))).setCell ⟨A.lb, k * 18 + 10, none⟩ (.int .u64 (F 2 : Int))).setCell ⟨A.lb, k * 18 + 11, none⟩ (.int .u64 (F 3 : Int))).setCell ⟨A.lb, k * 18 + 12, none⟩ (.int .u64 (F 4 : Int))).setCell ⟨A.lb, k * 18 + 13, none⟩ (.int .u64 (F 5 : Int))).setCell ⟨A.lb, k * 18 + 14, none⟩ (.int .u64 (F 6 : Int))).setCell ⟨A.lb, k * 18 + 15, none⟩ (.int .u64 (F 7 : Int))).setCell ⟨A.lb, k * 18 + 16, none⟩ (.slice none 0 0)).setCell ⟨A.lb, k * 18 + 17, none⟩ (.int .u64 0))) := Lib.hid (by
        have hlb := HEL.out
        have hO := (((((((((((((((((((Only.refl (fun b => b = A'.lb) wd).set ⟨A'.lb, k * 18, none⟩ (.int .u64 (F 0 : Int)) (.inl rfl)).set ⟨A'.lb, k * 18 + 1, none⟩ (.int .u64 (F 1 : Int)) (.inl rfl)).set ⟨A'.lb, k * 18 + 2, none⟩ (.int .u64 (F 2 : Int)) (.inl rfl)).set ⟨A'.lb, k * 18 + 3, none⟩ (.int .u64 (F 3 : Int)) (.inl rfl)).set ⟨A'.lb, k * 18 + 4, none⟩ (.int .u64 (F 4 : Int)) (.inl rfl)).set ⟨A'.lb, k * 18 + 5, none⟩ (.int .u64 (F 5 : Int)) (.inl rfl)).set ⟨A'.lb, k * 18 + 6, none⟩ (.int .u64 (F 6 : Int)) (.inl rfl)).set ⟨A'.lb, k * 18 + 7, none⟩ (.int .u64 (F 7 : Int)) (.inl rfl)).set ⟨A'.lb, k * 18 + 8, none⟩ (.int .u64 (F 0 : Int)) (.inl rfl)).set ⟨A'.lb, k * 18 + 9, none⟩ (.int .u64 (F 1 : Int)) (.inl rfl)).set ⟨A'.lb, k * 18 + 10, none⟩ (.int .u64 (F 2 : Int)) (.inl rfl)).set ⟨A'.lb, k * 18 + 11, none⟩ (.int .u64 (F 3 : Int)) (.inl rfl)).set ⟨A'.lb, k * 18 + 12, none⟩ (.int .u64 (F 4 : Int)) (.inl rfl)).set ⟨A'.lb, k * 18 + 13, none⟩ (.int .u64 (F 5 : Int)) (.inl rfl)).set ⟨A'.lb, k * 18 + 14, none⟩ (.int .u64 (F 6 : Int)) (.inl rfl)).set ⟨A'.lb, k * 18 + 15, none⟩ (.int .u64 (F 7 : Int)) (.inl rfl)).set ⟨A'.lb, k * 18 + 16, none⟩ (.slice none 0 0) (.inl rfl)).set ⟨A'.lb, k * 18 + 17, none⟩ (.int .u64 0) (.inl rfl))
        have hlb2 : A.lb = A'.lb := hlb.symm
        rw [hlb2]
        refine ⟨{ A' with hv := fun i => if i = k then .slice none 0 0 else A'.hv i }, HED.out, rfl, HID.out.lineNil (S' := St.fromK zs n (k + 1)) (l := k) hkn rfl rfl rfl rfl rfl rfl (fun i hi => ⟨fromK_other zs n k i hi, rfl, rfl⟩) rfl _ (by rw [← hlb] at HBL; exact ((((((((((((((((((HBL.out.set (k * 18) (.int .u64 (F 0 : Int))).set (k * 18 + 1) (.int .u64 (F 1 : Int))).set (k * 18 + 2) (.int .u64 (F 2 : Int))).set (k * 18 + 3) (.int .u64 (F 3 : Int))).set (k * 18 + 4) (.int .u64 (F 4 : Int))).set (k * 18 + 5) (.int .u64 (F 5 : Int))).set (k * 18 + 6) (.int .u64 (F 6 : Int))).set (k * 18 + 7) (.int .u64 (F 7 : Int))).set (k * 18 + 8) (.int .u64 (F 0 : Int))).set (k * 18 + 9) (.int .u64 (F 1 : Int))).set (k * 18 + 10) (.int .u64 (F 2 : Int))).set (k * 18 + 11) (.int .u64 (F 3 : Int))).set (k * 18 + 12) (.int .u64 (F 4 : Int))).set (k * 18 + 13) (.int .u64 (F 5 : Int))).set (k * 18 + 14) (.int .u64 (F 6 : Int))).set (k * 18 + 15) (.int .u64 (F 7 : Int))).set (k * 18 + 16) (.slice none 0 0)).set (k * 18 + 17) (.int .u64 0))) (fun o ho => ?_) (fun j hj => ?_) (fun j hj => ?_) ?_ ?_ hO, HB2.out.trans (hO.below HB2.out.size (fun b hb => by rw [hb]; exact HID.out.bl))⟩
        · simp only [upd]
          repeat (rw [if_neg (by omega)])
        · unfold wordG
          rw [fromK_pers, ← HFF.out]
          match j, hj with
          | 0, _ => simp [upd]
          | 1, _ => simp [upd]
          | 2, _ => simp [upd]
          | 3, _ => simp [upd]
          | 4, _ => simp [upd]
          | 5, _ => simp [upd]
          | 6, _ => simp [upd]
          | 7, _ => simp [upd]
        · show _ = wordG ((St.fromK zs n (k + 1)).pers k) j
          unfold wordG
          rw [fromK_pers, ← HFF.out]
          match j, hj with
          | 0, _ => simp [upd]
          | 1, _ => simp [upd]
          | 2, _ => simp [upd]
          | 3, _ => simp [upd]
          | 4, _ => simp [upd]
          | 5, _ => simp [upd]
          | 6, _ => simp [upd]
          | 7, _ => simp [upd]
        · simp [upd]
        · simp [upd]; rfl)
      go_wp2
      go_roundw
      case rel => exact ⟨k + 1, by omega, by go_num, HS⟩
      case measure => simp [intOf]; omega
    · have hkn2 : k = n := by omega
      subst hkn2
      have c0 : wr.cell? ⟨A.d, 0, none⟩ = some (.slice (some ⟨A.lb, 0, none⟩) k A'.cap) := by rw [← ed, ← el]; exact hdev.db.c0
      clear ed el hdev hbw
      go_wp2
      go_ret2
      exact ⟨A', by rw [HED.out]; rfl, Lib.hid ⟨HD.out, HBW.out⟩⟩
end Go.Proofs.YtnhddgmegnehaaaDoor.Dev
