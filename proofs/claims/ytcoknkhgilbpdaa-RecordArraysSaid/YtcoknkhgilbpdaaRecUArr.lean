/-
  CONTRACTS: the reference's Unarray.
-/
import Derived.Test.YtcoknkhgilbpdaaRecRArr
set_option linter.unusedVariables false
set_option linter.unusedSimpArgs false
namespace Go.Proofs.Ytcoknkhgilbpdaa.Rec
open Go.ChangeShapes Go.WideShapes Go.ChangeAt Go.RowKit Go.Proofs.Ytcoknkhgilbpdaa.Mem Go.Proofs.Ytcoknkhgilbpdaa.Law Go.Proofs.Ytcoknkhgilbpdaa.Args Go.Proofs.Ytcoknkhgilbpdaa.Own
/-- The reference's numbers of an array. -/
def uarr (n : Nat) (zs : List Int) : Option (List Int) :=
  if zs.length = n + 1 ∧ zs.getD 0 0 ≤ (n : Int) ∧ zero (zs.drop (1 + (zs.getD 0 0).toNat)) = true then some ((zs.drop 1).take (zs.getD 0 0).toNat) else none
theorem adec_uarr (n : Nat) (zs : List Int) : adec n zs = (uarr n zs).map (·.map i64) := by
  unfold adec uarr
  split <;> rfl
def UR (o : Option (List Int)) (v : Value) (b : Bool) (w : World) (B : Nat) : Prop :=
  (∃ l A c, o = some l ∧ b = true ∧ v = .slice A l.length c ∧ IntsAt .u64 w B A l) ∨ (o = none ∧ b = false ∧ v = .slice none 0 0)
theorem uarr_bad (n : Int) (A : Option Addr) (L c : Nat) (w : World) (hn : n < 0 ∨ 4096 ≤ n ∨ (L : Int) ≠ n + 1) (hn2 : n ≤ 100000):
    Calls Try.prog 32 #[.int .i64 n, .slice A L c] w fun e w' => e = .returned (.tuple #[.slice none 0 0, .bool false]) ∧ w = w' := by
  go_enter Try.func32, Try.ntmps32
  by_cases h1 : n < 0
  · go_wp2
    go_ret2
    exact ⟨rfl, rfl⟩
  · by_cases h2 : 4096 ≤ n
    · go_wp2
      go_ret2
      exact ⟨rfl, rfl⟩
    · have h3 : ¬ ((L : Int) = n + 1) := by omega
      go_wp2
      go_ret2
      exact ⟨rfl, rfl⟩
set_option maxRecDepth 100000 in
theorem uarr_great (n : Nat) (ad : Addr) (c L : Nat) (x : Int) (w : World) (hn : n ≤ 4095) (hL : L = n + 1) (hx : w.cell? ad = some (.int .u64 x)) (hxn : (n : Int) < x) :
    Calls Try.prog 32 #[.int .i64 (n : Int), .slice (some ad) L c] w fun e w' => e = .returned (.tuple #[.slice none 0 0, .bool false]) ∧ w = w' := by
  have h1 : ¬ ((n : Int) < 0) := by omega
  have h2 : decide (4096 ≤ (n : Int)) = false := decide_eq_false (by omega)
  have h3 : (L : Int) = (n : Int) + 1 := by omega
  have h4 : decide ((n : Int) < x) = true := decide_eq_true hxn
  have hL0 : ¬ L < 1 := by omega
  have hL1 : 1 ≤ L := by omega
  subst hL
  go_enter Try.func32, Try.ntmps32
  go_wp2
  go_ret2
  exact ⟨rfl, rfl⟩
set_option maxRecDepth 100000 in
set_option maxHeartbeats 1000000 in
theorem uarr_main (n k : Nat) (ad : Addr) (c B L : Nat) (zs : List Int) (w : World) (hn : n ≤ 4095) (hL : L = n + 1) (hl : zs.length = L) (hc : L ≤ c) (hk : zs.getD 0 0 = (k : Int)) (hkn : k ≤ n) (hr : Hid (IntsAt .u64 w B (some ad) zs)) :
    Calls Try.prog 32 #[.int .i64 (n : Int), .slice (some ad) L c] w fun e w' => ∃ v b, e = .returned (.tuple #[v, .bool b]) ∧ Hid (UR (uarr n zs) v b w B) ∧ w = w' := by
  have HL := Lib.hid hl
  have HK := Lib.hid hk
  have h1 : ¬ ((n : Int) < 0) := by omega
  have h2 : decide (4096 ≤ (n : Int)) = false := decide_eq_false (by omega)
  have h3 : (L : Int) = (n : Int) + 1 := by omega
  have h4 : ¬ n < k := by omega
  have hL0 : ¬ L < 1 := by omega
  have hL1 : 1 ≤ L := by omega
  have hx : w.cell? ad = some (.int .u64 (k : Int)) := by
    obtain ⟨a, e, hlt, hc⟩ := hr.out 0 (by omega)
    injection e with e
    subst e
    rw [hk] at hc
    exact hc
  subst hL
  clear hl hk
  have HRES : Hid (∀ z : Bool, zero (zs.drop (1 + k)) = z → uarr n zs = if z then some ((zs.drop 1).take k) else none) := Lib.hid (fun z hz => by
    unfold uarr
    rw [HK.out, Int.toNat_natCast, hz, HL.out]
    cases z
    · rw [if_neg (by simp)]; rfl
    · rw [if_pos ⟨rfl, by omega, rfl⟩]; rfl)
  have HLEN : Hid (((zs.drop 1).take k).length = k) := Lib.hid (by simp; have := HL.out; omega)
  have HDR : Hid (IntsAt .u64 w B (some (ad.add (1 + k))) (zs.drop (1 + k))) := Lib.hid (intsAt_drop hr.out (1 + k))
  have HTK : Hid (IntsAt .u64 w B (some ⟨ad.block, ad.off + 1, none⟩) ((zs.drop 1).take k)) := Lib.hid (IntsAt.take (intsAt_tail hr.out 0) k)
  go_enter Try.func32, Try.ntmps32
  go_wp2
  all_goals
    go_loopw [39] (fun i wx => ∃ j : Nat, j ≤ n - k ∧ i = .int .i64 j ∧ w = wx ∧ ∀ q, q < j → zs.getD (1 + k + q) 0 = 0) (fun i _ => n - k - (intOf i).toNat)
    case atStart => exact ⟨0, by omega, rfl, by first | rfl | trivial, fun q hq => absurd hq (by omega)⟩
    case round =>
      obtain ⟨j, hj, rfl, rfl, hz⟩ := hrel
      have HZ := Lib.hid hz
      clear hz
      by_cases hlt : j < n - k
      · have hcc : ¬ c = 1 + k := by omega
        try (exfalso; omega)
        all_goals
          have hjl : j < n + 1 - (1 + k) := by omega
          obtain ⟨x, hx9⟩ : ∃ x, zs.getD (1 + k + j) 0 = x := ⟨_, rfl⟩
          have hcell : w.cell? ((ad.add (1 + k)).add j) = some (.int .u64 x) := by
            obtain ⟨a, e, _, hc9⟩ := HDR.out j (by rw [List.length_drop, HL.out]; omega)
            injection e with e
            subst e
            rw [hc9, ← hx9]
            simp [List.getD]
          have HX := Lib.hid hx9
          clear hx9
          by_cases hx0 : x = 0
          · go_wp2
            go_roundw
            case rel => exact ⟨j + 1, by omega, by go_num, by first | rfl | trivial, fun q hq => by
                rcases Nat.lt_or_ge q j with h | h
                · exact HZ.out q h
                · rw [show q = j by omega, HX.out, hx0]⟩
            case measure => simp [intOf]; omega
          · have HN : Hid (uarr n zs = none) := Lib.hid (HRES.out false (by
              rw [Bool.eq_false_iff]
              intro h
              have := (zero_iff _).1 h j (by rw [List.length_drop, HL.out]; omega)
              rw [show (zs.drop (1 + k)).getD j 0 = zs.getD (1 + k + j) 0 by simp [List.getD], HX.out] at this
              exact hx0 this))
            go_wp2
            go_ret2
            exact ⟨_, _, rfl, Lib.hid (.inr ⟨HN.out, rfl, rfl⟩), rfl⟩
      · have HN : Hid (uarr n zs = some ((zs.drop 1).take k)) := Lib.hid (HRES.out true (by
          rw [zero_iff]
          intro q hq
          rw [List.length_drop, HL.out] at hq
          rw [show (zs.drop (1 + k)).getD q 0 = zs.getD (1 + k + q) 0 by simp [List.getD]]
          exact HZ.out q (by omega)))
        by_cases hc1 : c = 1
        · have hk0 : k = 0 := by omega
          try (exfalso; omega)
          all_goals
            go_wp2
            go_ret2
            exact ⟨_, _, rfl, Lib.hid (.inl ⟨_, some ad, 0, HN.out, rfl, by rw [HLEN.out, hk0]; rfl, by rw [hk0]; exact IntsAt.nil_⟩), rfl⟩
        · go_wp2
          go_ret2
          exact ⟨_, _, rfl, Lib.hid (.inl ⟨_, some ⟨ad.block, ad.off + 1, none⟩, c - 1, HN.out, rfl, by rw [HLEN.out]; first | rfl | (simp; done) | (simp; omega), HTK.out⟩), rfl⟩
theorem uarr_any (n : Int) (A : Option Addr) (c B L : Nat) (zs : List Int) (w : World) (hn2 : n ≤ 100000) (hl : zs.length = L) (hc : L ≤ c) (hp : ∀ z ∈ zs, 0 ≤ z) (hr : Hid (IntsAt .u64 w B A zs)) :
    Calls Try.prog 32 #[.int .i64 n, .slice A L c] w fun e w' => ∃ v b, e = .returned (.tuple #[v, .bool b]) ∧ Hid (UR (if n < 0 ∨ 4096 ≤ n then none else uarr n.toNat zs) v b w B) ∧ w = w' := by
  by_cases hb : n < 0 ∨ 4096 ≤ n
  · rw [if_pos hb]
    exact (uarr_bad n A L c w (by omega) hn2).mono (fun e w' h => ⟨_, _, h.1, Lib.hid (.inr ⟨rfl, rfl, rfl⟩), h.2⟩)
  · rw [if_neg hb]
    obtain ⟨k, rfl⟩ := Int.eq_ofNat_of_zero_le (show 0 ≤ n by omega)
    rw [Int.toNat_natCast]
    by_cases hL : L = k + 1
    · obtain ⟨ad, rfl, hlt, hc0⟩ := hr.out 0 (by omega)
      by_cases hx : (k : Int) < zs.getD 0 0
      · exact (uarr_great k ad c L _ w (by omega) hL hc0 hx).mono (fun e w' h => ⟨_, _, h.1, Lib.hid (.inr ⟨by
          unfold uarr
          rw [if_neg (by omega)], rfl, rfl⟩), h.2⟩)
      · have h0 : 0 ≤ zs.getD 0 0 := by
          rw [getD_at (by omega)]
          exact hp _ (List.getElem_mem _)
        exact uarr_main k (zs.getD 0 0).toNat ad c B L zs w (by omega) hL hl hc (by omega) (by omega) hr
    · exact (uarr_bad k A L c w (by omega) hn2).mono (fun e w' h => ⟨_, _, h.1, Lib.hid (.inr ⟨by
        unfold uarr
        rw [if_neg (by omega)], rfl, rfl⟩), h.2⟩)
end Go.Proofs.Ytcoknkhgilbpdaa.Rec
