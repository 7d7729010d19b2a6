/-
  CONTRACTS OF PACKAGE image: wordBytes, With.
-/
import Derived.Test.YtnhddgmegnehaaaDoorIImg
set_option linter.unusedVariables false
set_option linter.unusedSimpArgs false
namespace Go.Proofs.YtnhddgmegnehaaaDoor.Base
open Go.ChangeShapes Go.WideShapes Go.ChangeAt Go.RowKit Go.Sort Go.Lib
/-- byte k of a word. -/
def byteN (v k : Nat) : UInt8 := UInt8.ofNat (v / 256 ^ k % 256)
def wordL (v : Nat) : List UInt8 := (List.range 8).map (byteN v)
theorem wordL_length (v : Nat) : (wordL v).length = 8 := by simp [wordL]
theorem wordL_at (v k : Nat) (h : k < (wordL v).length) : (wordL v)[k] = byteN v k := by simp [wordL]
theorem byteN_toNat (v k : Nat) : (byteN v k).toNat = v / 256 ^ k % 256 := by unfold byteN; rw [ofNat_toNat _ (by omega)]
def ByteInv (v k : Nat) (d : Array UInt8) : Prop := ∀ t, t < k → d[t]! = byteN v t
theorem ByteInv.step {v k : Nat} {d : Array UInt8} (h : ByteInv v k d) (hd : d.size = 8) (hk : k < 8) : ByteInv v (k + 1) (d.setIfInBounds k (byteN v k)) := by
  intro t ht
  by_cases he : t = k
  · subst he; rw [getElem!_set_same _ _ _ (by omega)]
  · have := h t (by omega)
    rw [← this, getElem!_pos _ _ (by simp; omega), getElem!_pos _ _ (by omega), Array.getElem_setIfInBounds, if_neg (by omega)]
theorem shr8 (v k : Nat) (hv : v < 18446744073709551616) : (v : Int) / 2 ^ (8 * k) = ((v / 256 ^ k : Nat) : Int) := by
  have e : (2 : Int) ^ (8 * k) = ((256 ^ k : Nat) : Int) := by
    rw [show (256 : Nat) = 2 ^ 8 from rfl, ← Nat.pow_mul]; simp
  rw [e]; simp
set_option maxHeartbeats 800000 in
set_option maxRecDepth 100000 in
theorem wordBytes_any (v : Nat) (w : World) (hv : v < 18446744073709551616) :
    Calls Tryd.prog 38 #[.int .u64 (v : Int)] w fun e w' => e = .returned (str (wordL v)) ∧ Below w.heap.size w w' := by
  go_enter Tryd.func38, Tryd.ntmps38
  go_wp2
  go_name_world W1 hW1
  have hz : W1 = w.alloc (.cells (Array.replicate 8 (.int .u8 0)) 93) := by rw [← hW1]; rfl
  have hH0 : Holds enc8 W1 w.heap.size 0 (Array.replicate 8 (0 : UInt8)) := fun j hj => by
    have hj' : j < 8 := by simpa using hj
    rw [hz]
    refine ⟨?_, World.frozen?_alloc_new _ _ _ _⟩
    rw [World.cell?_alloc_new, Array.getElem?_replicate, if_pos (by omega), getElem!_pos _ j hj]
    simp [enc8]
  have HZ := Lib.hid hz
  have HH0 := Lib.hid hH0
  clear hz hH0 hW1
  go_loopw [5] (fun vk wr => ∃ (k : Nat) (dk : Array UInt8), k ≤ 8 ∧ vk = .int .i64 (k : Int) ∧ wr = putRow enc8 W1 w.heap.size 0 dk ∧ dk.size = 8 ∧ Hid (ByteInv v k dk)) (fun vk _ => (8 - RowKit.intOf vk).toNat)
  case atStart => exact ⟨0, Array.replicate 8 0, by omega, rfl, (putRow_self _ _ _ _ _ HH0.out).symm, by simp, Lib.hid (fun t ht => by omega)⟩
  case round =>
    obtain ⟨k, dk, hk, rfl, hw0, hdk, HI⟩ := hrel
    rename World => W0
    have hHk : Holds enc8 W0 w.heap.size 0 dk := by rw [hw0]; exact holds_putRow _ W1 w.heap.size 0 _ dk HH0.out (by rw [hdk]; simp)
    have HW0 := Lib.hid hw0
    by_cases h8 : k < 8
    · have hc0 : W0.cell? ⟨w.heap.size, k, none⟩ = some (.int .u8 (dk[k]!.toNat : Int)) := by have := (hHk k (by omega)).1; rw [Nat.zero_add] at this; exact this
      have hf0 : W0.frozen? ⟨w.heap.size, k, none⟩ = false := by have := (hHk k (by omega)).2; rw [Nat.zero_add] at this; exact this
      generalize dk[k]!.toNat = old at hc0
      have hb : IntKind.u8.wrap ((v : Int) / 2 ^ (8 * k)) = ((byteN v k).toNat : Int) := by
        rw [shr8 v k hv, byteN_toNat]; simp [IntKind.wrap, IntKind.bits, IntKind.signed]
      clear hHk hw0
      go_wp2
      go_roundw
      case rel =>
        refine ⟨k + 1, dk.setIfInBounds k (byteN v k), by omega, by go_num, ?_, by simpa using hdk, Lib.hid (HI.out.step hdk h8)⟩
        rw [HW0.out]
        have := store1_world W1 w.heap.size 0 dk 0 k (byteN v k) (by omega)
        rw [Nat.zero_add] at this
        exact this
      case measure => simp [RowKit.intOf]; omega
    · have h88 : k = 8 := by omega
      subst h88
      have hcv : (convert 22 9 (.slice (some ⟨w.heap.size, 0, none⟩) 8 8)).run Tryd.prog W0 = .ok (.string ⟨(wordL v).toArray⟩) W0 := by
        have h := run_convert_bytes_back (P := Tryd.prog) W0 22 9 5 ⟨w.heap.size, 0, none⟩ 8 (wordL v) Tryd.underlying22 Tryd.underlying5 Tryd.underlying9 (fun j hj => by
          have hj2 : j < 8 := by rw [wordL_length] at hj; exact hj
          rw [Lib.add_plain, wordL_at v j hj, ← HI.out j hj2]
          exact (hHk j (by omega)).1)
        rw [wordL_length] at h
        exact h
      have HG := Lib.hid (Lib.fin_at w (.cells (Array.replicate 8 (.int .u8 0)) 93) dk 0 0)
      clear hHk hw0
      go_wp2
      go_ret
      refine ⟨rfl, ?_⟩
      rw [HW0.out, HZ.out]
      obtain ⟨os, eo⟩ := HG.out
      have e2 : putRow enc8 (w.alloc (.cells (Array.replicate 8 (.int .u8 0)) 93)) w.heap.size 0 dk = grow (w.drewN 0) os := eo
      rw [e2]
      exact Lib.below_grow w.heap.size w (Nat.le_refl _) 0 os
def withL (l : List UInt8) (n v : Nat) : List UInt8 := l.take n ++ wordL v ++ l.drop (n + 8)
/-- what a method keeps of its receiver's box and of its result's cell. -/
structure Kept (w : World) (l r : List UInt8) (w' : World) : Prop where
  c1 : w'.cell? ⟨w.heap.size, 0, none⟩ = some (str l)
  c2 : w'.cell? ⟨w.heap.size + 1, 0, none⟩ = some (str r)
  f2 : w'.frozen? ⟨w.heap.size + 1, 0, none⟩ = false
  sz : w.heap.size + 2 ≤ w'.heap.size
  bb : Below w.heap.size w w'
theorem Kept.on {w w1 w2 : World} {l r : List UInt8} (h : Kept w l r w1) (hb : Below w1.heap.size w1 w2) : Kept w l r w2 := by
  have hz := h.sz
  exact ⟨(hb.cell (by show w.heap.size < _; omega)).trans h.c1, (hb.cell (by show w.heap.size + 1 < _; omega)).trans h.c2, (hb.frozen (by show w.heap.size + 1 < _; omega)).trans h.f2, Nat.le_trans hz hb.size, h.bb.trans (hb.mono h.bb.size)⟩
theorem Kept.start (w : World) (l : List UInt8) : Kept w l [] ((w.alloc (.cells #[str l] 25)).alloc (.cells #[.string ⟨#[]⟩] 25)) := by
  have hs : (w.alloc (.cells #[str l] 25)).heap.size = w.heap.size + 1 := by simp
  have hb1 : Below w.heap.size w (w.alloc (.cells #[str l] 25)) := (Below.refl _ _).alloc (Nat.le_refl _) _
  have hb2 : Below (w.alloc (.cells #[str l] 25)).heap.size (w.alloc (.cells #[str l] 25)) ((w.alloc (.cells #[str l] 25)).alloc (.cells #[.string ⟨#[]⟩] 25)) := (Below.refl _ _).alloc (Nat.le_refl _) _
  refine ⟨(hb2.cell (by show w.heap.size < _; rw [hs]; omega)).trans (by rw [World.cell?_alloc_new]; rfl), ?_, ?_, by simp, hb1.trans (hb2.mono hb1.size)⟩
  · rw [← hs, World.cell?_alloc_new]; rfl
  · rw [← hs]; exact World.frozen?_alloc_new _ _ _ _
theorem withL_length (l : List UInt8) (n v : Nat) (h : n + 8 ≤ l.length) : (withL l n v).length = l.length := by
  unfold withL; simp [wordL_length]; omega
set_option maxHeartbeats 800000 in
set_option maxRecDepth 100000 in
theorem with_ok (l : List UInt8) (n v : Nat) (w : World) (hl : l.length ≤ 4294967295) (hn : n % 8 = 0) (h8 : n + 8 ≤ l.length) (hv : v < 18446744073709551616) :
    Calls Tryd.prog 17 #[img l, .int .u64 (n : Int), .int .u64 (v : Int)] w fun e w' => e = .returned (.tuple #[img (withL l n v), .int .i64 0]) ∧ Below w.heap.size w w' := by
  have HC := Lib.hid (fun w => check_any l (n : Int) w hl (by omega) (by omega))
  rw [cErr_ok (l := l) (off := (n : Int)) (by omega) (by omega)] at HC
  have HWB := Lib.hid (fun w => wordBytes_any v w hv)
  have hlw := wordL_length v
  have hs1 := fun W => slice_hi .u64 l n (by omega) W
  have hs2 : ∀ W, (Instr.slice 9 (.string ⟨l.toArray⟩) (some (.int .u64 ((n : Int) + 8))) none none).run Tryd.prog W = .ok (.string ⟨(l.drop (n + 8)).toArray⟩) W := fun W => by
    have := slice_lo_u l (n + 8) h8 W
    rw [show ((n + 8 : Nat) : Int) = (n : Int) + 8 by omega] at this
    exact this
  have hwr : IntKind.u64.wrap ((n : Int) + 8) = (n : Int) + 8 := by rw [IntKind.wrap_u64]; omega
  have hl1 : (l.take n).length = n := by rw [List.length_take]; omega
  have hl2 : (l.drop (n + 8)).length = l.length - (n + 8) := List.length_drop
  have HE : Hid (withL l n v = l.take n ++ wordL v ++ l.drop (n + 8)) := Lib.hid rfl
  have hA : ¬ 9223372036854775807 < n + 8 := by omega
  have hB : ¬ 9223372036854775807 < n + 8 + (l.length - (n + 8)) := by omega
  have hC : ¬ 9223372036854775807 < l.length := by omega
  have hA' : n + 8 ≤ 9223372036854775807 := by omega
  have hC' : l.length ≤ 9223372036854775807 := by omega
  generalize l.take n = l1 at *
  generalize l.drop (n + 8) = l2 at *
  generalize wordL v = lv at *
  go_enter Tryd.func17, Tryd.ntmps17
  go_wp2_with (go_at_call 36; refine (HC.out _).mono ?_; rintro e w1 ⟨rfl, hb⟩)
  have hK : Kept w l [] w1 := (Kept.start w l).on hb
  have HK := Lib.hid hK
  obtain ⟨k1, k2, k3, k4, k5⟩ := hK
  have k6 : Below w.heap.size w w1.drew := k5.drew
  clear hb HC
  go_region_held3 (fun w' => w'.cell? ⟨w.heap.size, 0, none⟩ = some (str l) ∧ Below w.heap.size w w') (first | assumption | (constructor <;> assumption) | exact ⟨(World.cell?_setCell_other _ _ _ _ (by simp)).trans q1, q5.setCell (Nat.le_succ _) _⟩) (first
    | (go_at_call 38; go_must (refine (HWB.out _).mono ?_); rintro e w2 ⟨rfl, hb2⟩; have hK2 : Kept w l [] w2 := (HK.out.on (by first | exact Below.refl _ _ | exact (Below.refl _ _).drew | exact Go.Proofs.YtnhddgmegnehaaaDoor.Law.below_draws (Below.refl _ _) _ | exact (Go.Proofs.YtnhddgmegnehaaaDoor.Law.below_draws (Below.refl _ _) _).drew)).on hb2; obtain ⟨q1, q2, q3, q4, q5⟩ := hK2))
  have hfin := World.cell?_setCell_same w2 ⟨w.heap.size + 1, 0, none⟩ (.string (⟨l1.toArray⟩ ++ ⟨lv.toArray⟩ ++ ⟨l2.toArray⟩)) q2
  have hbf : Below w.heap.size w (w2.setCell ⟨w.heap.size + 1, 0, none⟩ (.string (⟨l1.toArray⟩ ++ ⟨lv.toArray⟩ ++ ⟨l2.toArray⟩))) := q5.setCell (Nat.le_succ _) _
  generalize w2.setCell ⟨w.heap.size + 1, 0, none⟩ (.string (⟨l1.toArray⟩ ++ ⟨lv.toArray⟩ ++ ⟨l2.toArray⟩)) = w3 at *
  have e : (⟨l1.toArray⟩ ++ ⟨lv.toArray⟩ ++ ⟨l2.toArray⟩ : ByteArray) = ⟨(withL l n v).toArray⟩ := by rw [HE.out, ba_app, ba_app]
  rw [e] at hfin
  clear e
  go_wp2
  refine bodyPost_ret (v := .tuple #[img (withL l n v), .int .i64 0]) (by simp [results, Tryd.results17, go_sem, hfin]) rfl ⟨rfl, hbf⟩
end Go.Proofs.YtnhddgmegnehaaaDoor.Base
