/-
  CONTRACTS: the reference's Number and Text.
-/
import Derived.Test.YtkngmanfekcjmaaDoorPHex
set_option linter.unusedVariables false
set_option linter.unusedSimpArgs false
namespace Go.Proofs.YtkngmanfekcjmaaDoor.Base
open Go.ChangeShapes Go.WideShapes Go.ChangeAt Go.RowKit Go.Sort Go.Lib Go.Proofs.YtkngmanfekcjmaaDoor.PM
/-- what is written of a numeral when v is left and s stands. -/
def NumInv (u v : Nat) (s : List UInt8) : Prop := (s = [] ∧ v = u) ∨ (s ≠ [] ∧ v = 0 ∧ decDigits u = s) ∨ (s ≠ [] ∧ v ≠ 0 ∧ decDigits u = decDigits v ++ s)
def dgc (v : Nat) : UInt8 := UInt8.ofNat (48 + v % 10)
theorem NumInv.step {u v : Nat} {s : List UInt8} (h : NumInv u v s) (hne : s = [] ∨ v ≠ 0) : NumInv u (v / 10) (dgc v :: s) := by
  show NumInv u (v / 10) (UInt8.ofNat (48 + v % 10) :: s)
  have hd : (v < 10 → decDigits v = [UInt8.ofNat (48 + v % 10)]) ∧ (¬ v < 10 → decDigits v = decDigits (v / 10) ++ [UInt8.ofNat (48 + v % 10)]) := by
    refine ⟨fun h => ?_, fun h => dec_big h⟩
    rw [dec_small h, Nat.mod_eq_of_lt h]
  have hu : decDigits u = decDigits v ++ s := by
    rcases h with ⟨rfl, rfl⟩ | ⟨h1, h2, h3⟩ | ⟨h1, h2, h3⟩
    · simp
    · exact absurd h2 (hne.resolve_left h1)
    · exact h3
  by_cases h10 : v < 10
  · right; left
    refine ⟨by simp, by omega, ?_⟩
    rw [hu, hd.1 h10]; rfl
  · right; right
    refine ⟨by simp, by omega, ?_⟩
    rw [hu, hd.2 h10]; simp
theorem NumInv.len {u v : Nat} {s : List UInt8} (h : NumInv u v s) (hu : u < 18446744073709551616) : s.length ≤ 20 := by
  have := dec_len u hu
  rcases h with ⟨rfl, rfl⟩ | ⟨h1, h2, h3⟩ | ⟨h1, h2, h3⟩
  · simp
  · rw [← h3]; exact this
  · rw [h3, List.length_append] at this; omega
def emptyM : Value → Nat
  | .string s => if s.size = 0 then 1 else 0
  | _ => 0
theorem emptyM_nil : emptyM (str []) = 1 := rfl
theorem emptyM_cons (c : UInt8) (l : List UInt8) : emptyM (str (c :: l)) = 0 := by
  show (if (⟨(c :: l).toArray⟩ : ByteArray).size = 0 then 1 else 0) = 0
  rw [str_size]; rfl
theorem one_byte (x : Nat) (hx : x < 256) (W : World) (b : Nat) (hc : W.cell? ⟨b, 0, none⟩ = some (.int .u8 (x : Int))) :
    (convert 67 9 (.slice (some ⟨b, 0, none⟩) 1 1)).run Tryd.prog W = .ok (.string ⟨[UInt8.ofNat x].toArray⟩) W := by
  exact run_convert_bytes_back (P := Tryd.prog) W 67 9 5 ⟨b, 0, none⟩ 1 [UInt8.ofNat x] Tryd.underlying67 Tryd.underlying5 Tryd.underlying9 (fun j hj => by
    have : j = 0 := by simp at hj; exact hj
    subst this
    rw [Lib.add_plain]
    simp only [List.getElem_cons_zero]
    rw [ofNat_toNat x hx]
    exact hc)
set_option maxHeartbeats 800000 in
set_option maxRecDepth 100000 in
theorem number_text (u : Nat) (w : World) (hu : u < 18446744073709551616) :
    Calls Tryd.prog 36 #[.int .u64 u] w fun e w' => e = .returned (str (decDigits u)) ∧ Below w.heap.size w w' := by
  go_enter Tryd.func36, Tryd.ntmps36
  go_wp2
  go_loopw [0, 3] (fun vn vs wr => ∃ (v : Nat) (s : List UInt8), v < 18446744073709551616 ∧ (s.length + v ≤ u + 20 ∨ True) ∧ vn = .int .u64 (v : Int) ∧ vs = str s ∧ Hid (NumInv u v s) ∧ Hid (Below w.heap.size w wr)) (fun vn vs _ => (RowKit.intOf vn).toNat + emptyM vs)
  case atStart => exact ⟨u, [], hu, by simp, rfl, rfl, Lib.hid (.inl ⟨rfl, rfl⟩), Lib.hid (Below.refl _ _)⟩
  case round =>
    obtain ⟨v, s, hv, -, rfl, rfl, HI, HB⟩ := hrel
    rename World => wr
    have hss := str_size s
    have hlen := NumInv.len HI.out hu
    have hcv : (convert 67 9 (.slice (some ⟨wr.heap.size, 0, none⟩) 1 1)).run Tryd.prog (wr.alloc (.cells #[.int .u8 (48 + (v : Int) % 10)] 5)) = .ok (.string ⟨[dgc v].toArray⟩) (wr.alloc (.cells #[.int .u8 (48 + (v : Int) % 10)] 5)) :=
      one_byte (48 + v % 10) (by omega) _ wr.heap.size (by rw [World.cell?_alloc_new]; rw [show ((48 + v % 10 : Nat) : Int) = 48 + (v : Int) % 10 by omega]; rfl)
    have hsz1 : (⟨[dgc v].toArray⟩ : ByteArray).size = 1 := rfl
    by_cases h0 : 0 < v
    · have HNE : Hid (s = [] ∨ v ≠ 0) := Lib.hid (.inr (by omega))
      have hrel2 := Lib.hid (NumInv.step HI.out HNE.out)
      go_wp2
      go_roundw
      case rel => exact ⟨v / 10, dgc v :: s, by omega, .inr trivial, rfl, congrArg Value.string (ba_app [dgc v] s), hrel2, Lib.hid (HB.out.alloc HB.out.size _)⟩
      case measure =>
        show (RowKit.intOf (.int .u64 ((v : Int) / 10))).toNat + emptyM (.string (⟨[dgc v].toArray⟩ ++ ⟨s.toArray⟩)) < _
        rw [ba_app]
        show _ + emptyM (str (dgc v :: s)) < _
        rw [emptyM_cons]
        simp only [RowKit.intOf]
        omega
    · have hv0 : v = 0 := by omega
      by_cases hs0 : s = []
      · subst hs0
        subst hv0
        have hst := Lib.hid (NumInv.step HI.out (.inl rfl))
        have hcv0 : (convert 67 9 (.slice (some ⟨wr.heap.size, 0, none⟩) 1 1)).run Tryd.prog (wr.alloc (.cells #[.int .u8 48] 5)) = .ok (.string ⟨#[48]⟩) (wr.alloc (.cells #[.int .u8 48] 5)) :=
          one_byte 48 (by omega) _ wr.heap.size (by rw [World.cell?_alloc_new]; rfl)
        clear hcv hsz1
        go_wp2
        go_roundw
        case rel => exact ⟨0, [48], by omega, .inr trivial, rfl, congrArg Value.string (ba_app [48] []), hst, Lib.hid (HB.out.alloc HB.out.size _)⟩
        case measure =>
          show (RowKit.intOf (.int .u64 (0 : Int))).toNat + emptyM (.string (⟨[48].toArray⟩ ++ ⟨([] : List UInt8).toArray⟩)) < _
          rw [ba_app]
          show _ + emptyM (str (48 :: [])) < _
          rw [emptyM_cons]
          simp only [RowKit.intOf]
          rw [emptyM_nil]
          omega
      · have HE : Hid (decDigits u = s) := Lib.hid (by
          rcases HI.out with ⟨h1, h2⟩ | ⟨h1, h2, h3⟩ | ⟨h1, h2, h3⟩
          · exact absurd h1 hs0
          · exact h3
          · exact absurd hv0 h2)
        have hd : (s == []) = false := by simpa using hs0
        clear hs0 hv0
        go_wp2
        go_ret
        rw [HE.out]
        exact ⟨rfl, HB.out⟩
end Go.Proofs.YtkngmanfekcjmaaDoor.Base
