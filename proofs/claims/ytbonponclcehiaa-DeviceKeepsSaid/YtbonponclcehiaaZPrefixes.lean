/-
  PROVED: the law DevicePrefixes answers true for every input, and each argument reads behind the call as before (Rows.DevicePrefixesSaid). No condition.
-/
import Derived.Test.YtbonponclcehiaaZF
import Derived.StillTailTactics
import Derived.BigQuiet
import Derived.Deep.Cut
import Derived.Deep.DeepCutAuto
import Derived.Test.YtbonponclcehiaaRows
import Derived.Test.YtbonponclcehiaaZA
import Derived.Test.YtbonponclcehiaaZM
set_option linter.unusedVariables false
set_option linter.unusedSimpArgs false
/-
  DevicePrefixes: the law's prefix, the mathematics.
-/
namespace Go.Proofs.Ytbonponclcehiaa.Dev
open Go.ChangeShapes Go.WideShapes Go.ChangeAt Go.RowKit Go.Proofs.Ytbonponclcehiaa.Mem Go.Proofs.Ytbonponclcehiaa.Args Go.Proofs.Ytbonponclcehiaa.Own Go.Proofs.Ytbonponclcehiaa.PackMath
/-- A line's bytes, the first i bytes of word j0 those of v. -/
def part (f : Nat → Nat) (j0 v i : Nat) : List Int := (lbytes f 8).take (8 * j0) ++ ((wbytes v).take i ++ (lbytes f 8).drop (8 * j0 + i))
theorem part_zero (f : Nat → Nat) (j0 v : Nat) : part f j0 v 0 = lbytes f 8 := by
  unfold part
  simp
theorem part_len (f : Nat → Nat) (j0 v i : Nat) (hj : j0 < 8) (hi : i ≤ 8) : (part f j0 v i).length = 64 := by
  unfold part
  have h1 := lbytes_len f 8
  have h2 := wbytes_len v
  rw [List.length_append, List.length_append, List.length_take, List.length_take, List.length_drop, h1, h2]
  omega
theorem part_step (f : Nat → Nat) (j0 v i : Nat) (hj : j0 < 8) (hi : i < 8) : (part f j0 v i).set (8 * j0 + i) ((wbytes v).getD i 0) = part f j0 v (i + 1) := by
  have h1 := lbytes_len f 8
  have h2 := wbytes_len v
  have hi8 : i < (wbytes v).length := by omega
  unfold part
  rw [List.set_append_right _ _ (by rw [List.length_take, h1]; omega), List.length_take, h1, show 8 * j0 + i - min (8 * j0) (8 * 8) = i by omega, List.set_append_right _ _ (by rw [List.length_take, h2]; omega), List.length_take, h2, show i - min i 8 = 0 by omega]
  have hd : (lbytes f 8).drop (8 * j0 + i) = (lbytes f 8)[8 * j0 + i]'(by rw [h1]; omega) :: (lbytes f 8).drop (8 * j0 + (i + 1)) := by
    rw [List.drop_eq_getElem_cons (by rw [h1]; omega)]
    rfl
  rw [hd, List.set_cons_zero, List.take_succ_eq_append_getElem hi8, List.append_assoc]
  simp [List.getD, hi8]
theorem lbytes_take (f : Nat → Nat) (n j : Nat) (h : j ≤ n) : (lbytes f n).take (8 * j) = lbytes f j := by
  induction n with
  | zero => have : j = 0 := by omega
            subst this; simp [lbytes]
  | succ n ih =>
    rw [lbytes_succ]
    by_cases hj : j = n + 1
    · subst hj
      rw [List.take_of_length_le (by rw [List.length_append, lbytes_len, wbytes_len]; omega), lbytes_succ]
    · rw [List.take_append_of_le_length (by rw [lbytes_len]; omega)]
      exact ih (by omega)
theorem lbytes_drop (f : Nat → Nat) (n j : Nat) (h : j ≤ n) : (lbytes f n).drop (8 * j) = lbytes (fun x => f (j + x)) (n - j) := by
  induction n with
  | zero => have : j = 0 := by omega
            subst this; simp [lbytes]
  | succ n ih =>
    by_cases hj : j = n + 1
    · subst hj
      rw [List.drop_of_length_le (by rw [lbytes_len]; omega)]
      simp [lbytes]
    · rw [lbytes_succ, List.drop_append_of_le_length (by rw [lbytes_len]; omega), ih (by omega), show n + 1 - j = (n - j) + 1 by omega, lbytes_succ, show j + (n - j) = n by omega]
theorem lbytes_ext (f g : Nat → Nat) (n : Nat) (h : ∀ x, x < n → f x = g x) : lbytes f n = lbytes g n := by
  induction n with
  | zero => rfl
  | succ n ih => rw [lbytes_succ, lbytes_succ, ih (fun x hx => h x (by omega)), h n (by omega)]
theorem part_full (f : Nat → Nat) (j0 v : Nat) (hj : j0 < 8) : part f j0 v 8 = lbytes (fun j => if j = j0 then v else f j) 8 := by
  unfold part
  rw [lbytes_take f 8 j0 (by omega), List.take_of_length_le (by rw [wbytes_len]; omega), show 8 * j0 + 8 = 8 * (j0 + 1) by omega, lbytes_drop f 8 (j0 + 1) (by omega)]
  have h1 : lbytes (fun j => if j = j0 then v else f j) 8 = (lbytes (fun j => if j = j0 then v else f j) 8).take (8 * (j0 + 1)) ++ (lbytes (fun j => if j = j0 then v else f j) 8).drop (8 * (j0 + 1)) := (List.take_append_drop _ _).symm
  rw [h1, lbytes_take _ 8 (j0 + 1) (by omega), lbytes_drop _ 8 (j0 + 1) (by omega), lbytes_succ, List.append_assoc, if_pos rfl]
  congr 1
  · exact lbytes_ext _ _ _ fun x hx => by rw [if_neg (by omega)]
  · congr 1
    exact lbytes_ext _ _ _ fun x hx => by rw [if_neg (by omega)]
theorem part_range (f : Nat → Nat) (j0 v i : Nat) (hf : ∀ j, f j < 18446744073709551616) (hv : v < 18446744073709551616) : ∀ z ∈ part f j0 v i, 0 ≤ z ∧ z ≤ 255 := by
  have hw : ∀ x, x < 18446744073709551616 → ∀ z ∈ wbytes x, 0 ≤ z ∧ z ≤ 255 := fun x hx z hz => by
    simp only [wbytes, List.mem_cons, List.not_mem_nil, or_false] at hz
    rcases hz with h | h | h | h | h | h | h | h <;> subst h <;> omega
  have hl : ∀ z ∈ lbytes f 8, 0 ≤ z ∧ z ≤ 255 := fun z hz => by
    obtain ⟨j, _, hz⟩ := List.mem_flatMap.1 hz
    exact hw _ (hf j) z hz
  intro z hz
  unfold part at hz
  rcases List.mem_append.1 hz with hz | hz
  · exact hl z (List.mem_of_mem_take hz)
  · rcases List.mem_append.1 hz with hz | hz
    · exact hw v hv z (List.mem_of_mem_take hz)
    · exact hl z (List.mem_of_mem_drop hz)
/-- Byte i of a word, as the law makes it. -/
theorem byte_of (v i : Nat) (hv : v < 18446744073709551616) (hi : i < 8) : ∃ b : Nat, b < 256 ∧ (wbytes v).getD i 0 = (b : Int) ∧ IntKind.u8.wrap ((v : Int) / 2 ^ (8 * i)) = (b : Int) ∧ 0 ≤ (v : Int) / 2 ^ (8 * i) ∧ (v : Int) / 2 ^ (8 * i) < 18446744073709551616 := by
  have hw : ∀ x : Int, IntKind.u8.wrap x = x % 256 := fun x => by simp [IntKind.wrap, IntKind.min, IntKind.max, IntKind.bits, IntKind.signed]
  have h : i = 0 ∨ i = 1 ∨ i = 2 ∨ i = 3 ∨ i = 4 ∨ i = 5 ∨ i = 6 ∨ i = 7 := by omega
  rcases h with rfl | rfl | rfl | rfl | rfl | rfl | rfl | rfl
  · refine ⟨v % 256, by omega, by simp [wbytes], ?_, ?_, ?_⟩ <;> (rw [show (2 : Int) ^ (8 * 0) = 1 from rfl]; (try rw [hw]); omega)
  · refine ⟨v / 256 % 256, by omega, by simp [wbytes], ?_, ?_, ?_⟩ <;> (rw [show (2 : Int) ^ (8 * 1) = 256 from rfl]; (try rw [hw]); omega)
  · refine ⟨v / 65536 % 256, by omega, by simp [wbytes], ?_, ?_, ?_⟩ <;> (rw [show (2 : Int) ^ (8 * 2) = 65536 from rfl]; (try rw [hw]); omega)
  · refine ⟨v / 16777216 % 256, by omega, by simp [wbytes], ?_, ?_, ?_⟩ <;> (rw [show (2 : Int) ^ (8 * 3) = 16777216 from rfl]; (try rw [hw]); omega)
  · refine ⟨v / 4294967296 % 256, by omega, by simp [wbytes], ?_, ?_, ?_⟩ <;> (rw [show (2 : Int) ^ (8 * 4) = 4294967296 from rfl]; (try rw [hw]); omega)
  · refine ⟨v / 1099511627776 % 256, by omega, by simp [wbytes], ?_, ?_, ?_⟩ <;> (rw [show (2 : Int) ^ (8 * 5) = 1099511627776 from rfl]; (try rw [hw]); omega)
  · refine ⟨v / 281474976710656 % 256, by omega, by simp [wbytes], ?_, ?_, ?_⟩ <;> (rw [show (2 : Int) ^ (8 * 6) = 281474976710656 from rfl]; (try rw [hw]); omega)
  · refine ⟨v / 72057594037927936, by omega, by simp [wbytes], ?_, ?_, ?_⟩ <;> (rw [show (2 : Int) ^ (8 * 7) = 72057594037927936 from rfl]; (try rw [hw]); omega)
end Go.Proofs.Ytbonponclcehiaa.Dev
/-
  DevicePrefixes: the walks.
-/
namespace Go.Proofs.Ytbonponclcehiaa.Dev
open Go.ChangeShapes Go.WideShapes Go.ChangeAt Go.RowKit Go.Proofs.Ytbonponclcehiaa.Mem Go.Proofs.Ytbonponclcehiaa.Args Go.Proofs.Ytbonponclcehiaa.Own Go.Proofs.Ytbonponclcehiaa.PackMath
theorem own_at {k : IntKind} {e : TypeId} {w : World} {base : Nat} {v : Value} {zs : List Int} (h : OwnInts k e w base v zs) (hn : 0 < zs.length) : ∃ g cap, v = .slice (some ⟨g, 0, none⟩) zs.length cap ∧ base ≤ g ∧ g < w.heap.size ∧ zs.length ≤ cap ∧ cap ≤ maxLen := by
  rcases h.2 with ⟨_, h0⟩ | ⟨g, cap, cur, rfl, hb, hg, h1, h2, _⟩
  · omega
  · exact ⟨g, cap, rfl, hb, (Array.getElem?_eq_some_iff.1 hg).1, h1, h2⟩
theorem lbytes_range (f : Nat → Nat) (hf : ∀ j, f j < 18446744073709551616) : ∀ z ∈ lbytes f 8, 0 ≤ z ∧ z ≤ 255 := by
  rw [← part_zero f 0 0]
  exact part_range f 0 0 0 hf (by omega)
set_option maxRecDepth 100000 in
set_option maxHeartbeats 2000000 in
theorem prefix_any (w w0 : World) (d r M : Nat) (S : St) (D : Option Addr) (z c B i : Nat) (ks : Nat → Nat) (hP : BothF w0 w d r S S) (hS : S.Ok M) (hM : M ≤ 1000000) (hz : 64 * S.n = z) (hzc : z ≤ c) (hcm : c ≤ maxLen) (hD : IntsAt .u8 w B D (content S ks S.n)) (hB : B ≤ w.heap.size) (hk : ∀ i, ks i ≤ (S.hist i).length) (hi : i < S.n) :
    Calls Try.prog 45 #[.pointer (some ⟨d, 0, none⟩), .slice D z c, .int .i64 (i : Int)] w fun q w' => q = .returned (.bool true) ∧ Hid (Below w.heap.size w w') := by
  obtain ⟨i0, hi0, hz0, hz1, hz2⟩ := info_parts info8
  have HI := Lib.hid hi0
  have HZ0 := Lib.hid hz0
  have HZ1 := Lib.hid hz1
  have HZ2 := Lib.hid hz2
  have HPP := Lib.hid hP
  have HSS := Lib.hid hS
  have HDD := Lib.hid hD
  have HKI := Lib.hid (hk i)
  have HII := Lib.hid hi
  have hn1 := hS.n1
  obtain ⟨n, hn⟩ : ∃ n, S.n = n := ⟨_, rfl⟩
  have HN := Lib.hid hn
  obtain ⟨q, hq⟩ : ∃ q, 64 * i = q := ⟨_, rfl⟩
  have HQ := Lib.hid hq
  have hqz : q + 64 ≤ z := by omega
  have hz4 : z ≤ 262144 := by omega
  have hcl : c ≤ 9223372036854775807 := by unfold maxLen at hcm; omega
  have hwq : IntKind.i64.wrap (64 * (i : Int)) = (q : Int) := by rw [IntWalk.i64_in _ (by omega)]; omega
  have hwq2 : IntKind.i64.wrap ((q : Int) + 64) = ((q + 64 : Nat) : Int) := by rw [IntWalk.i64_in _ (by omega)]; omega
  have HZZ := Lib.hid hz
  have hq0 : (0 : Int) ≤ (q : Int) := by omega
  have hqzi : (q : Int) + 64 ≤ (z : Int) := by omega
  -- the persisted bytes of line i
  have HPB : Hid (∀ w1, Below w.heap.size w w1 → Calls Try.prog 20 #[.pointer (some ⟨d, 0, none⟩)] w1 fun e w' => ∃ ad cp, e = .returned (.slice (some ad) z cp) ∧ z ≤ cp ∧ cp ≤ maxLen ∧ Hid (Below w1.heap.size w1 w' ∧ BothF w0 w' d r S S ∧ IntsAt .u8 w' w'.heap.size (some (ad.add q)) (lbytes (S.pers i) 8))) := Lib.hid fun w1 hb => by
    refine (bk_persisted (BothK.below hP hb) hS hM).mono ?_
    rintro e w' ⟨v', e1, H⟩
    obtain ⟨Dp, cp, e2, h1, h2, _, hI⟩ := H.out.1.form
    rw [content_len, hz] at h1 e2
    obtain ⟨ad, hA, _, _⟩ := hI 0 (by rw [content_len]; omega)
    subst hA e2
    refine ⟨ad, cp, e1, h1, h2, Lib.hid ⟨H.out.2.1, H.out.2.2, ?_⟩⟩
    have h3 := (IntsAt.drop hI q).take 64
    rw [← hq, content_line S _ S.n i hi] at h3
    rw [← hq]
    exact h3
  clear hi0 hz0 hz1 hz2 hP hS hD hk hi hn hq hz
  go_enter Try.func45, Try.ntmps45
  go_wp2_with (first
    | (go_at_call 20; go_must (refine (HPB.out _ ((Below.refl _ _).alloc (Nat.le_refl _) _)).mono ?_); rintro e w1 ⟨ad, cp, rfl, hcp1, hcp2, H1⟩; have hcpl : cp ≤ 9223372036854775807 := (by unfold maxLen at hcp2; omega))
    | (at_builtin; go_must (refine wpList_app (by simp [Region.wanted, yielded]) (.tmp 11) (.tmp 19) 22 rfl (base := w.heap.size) (xs := []) (v := .slice (some ⟨w.heap.size, 0, none⟩) 0 0) (B := w1.heap.size) (m := q + 64 - q) (c := cp - q) (A := some (ad.add q)) (zs := lbytes (S.pers i) 8) Try.underlying22 HI.out HZ0.out HZ1.out HZ2.out rfl rfl ((OwnInts.empty .u8 5 w (Nat.le_refl _)).below H1.out.1) rfl H1.out.2.2 (by rw [lbytes_len]; omega) (by first | (simp [maxLen]; done) | (simp [maxLen]; omega)) (by first | (simp; done) | (simp; omega)) (Nat.le_trans (by simp) H1.out.1.size) ?_); intro v2 w2 ho2 hg2 ha2; have HQ2 := Lib.hid (And.intro ho2 hg2); clear ho2 hg2 ha2)
    | (go_at_call 31; go_must (have HO2 : Hid (OwnInts .u8 5 w2 w.heap.size v2 (lbytes (S.pers i) 8)) := Lib.hid HQ2.out.1); go_must (have HE2 : Hid (OwnInts .u8 5 w1 w.heap.size (.slice (some ⟨w.heap.size, 0, none⟩) 0 0) []) := Lib.hid ((OwnInts.empty .u8 5 w (Nat.le_refl _)).below H1.out.1)); go_must (have HG2 : Hid (Below w.heap.size w1 w2 ∧ BothF w0 w2 d r S S) := Lib.hid ⟨HE2.out.grownBelow HQ2.out.2 (Nat.le_trans (by simp) H1.out.1.size), BothF.other (F := fun b => (Value.slice (some ⟨w.heap.size, 0, none⟩) 0 0).ownBlock = some b) H1.out.2.1 (Only.ofGrown HQ2.out.2 fun b hb => .inl hb) (fun b hb => .inr (.inl (OwnInts.tag HE2.out hb))) (fun b hb => by have h1 : w.heap.size = b := Option.some.inj hb; have h2 := (BothF.base HPP.out).size; omega)⟩); go_must (refine (bk_history HG2.out.2 i HSS.out hM HII.out).mono ?_); rintro e w3 ⟨v3, rfl, H3⟩))
  obtain ⟨g, cap, hv2, hgb, hgl, hc64, hcm2⟩ := own_at HO2.out (by rw [lbytes_len]; omega)
  rw [lbytes_len, show 8 * 8 = 64 from rfl] at hv2 hc64
  obtain ⟨C3, c3, hv3, hp3⟩ := H3.out.1.pairs
  have hgh : ∀ gh, C3 = some ⟨gh, 0, none⟩ → w2.heap.size ≤ gh := fun gh e => by
    have := H3.out.1.lt gh (by rw [hv3, e]; rfl)
    exact this.1
  subst hv2 hv3
  have HPA := Lib.hid hp3
  have HGH := Lib.hid hgh
  have HO3 : Hid (OwnInts .u8 5 w3 w.heap.size (.slice (some ⟨g, 0, none⟩) 64 cap) (lbytes (S.pers i) 8)) := Lib.hid (HO2.out.below H3.out.2.1)
  have HB3 : Hid (Below w.heap.size w w3) := Lib.hid ((((Below.refl _ _).alloc (Nat.le_refl _) _).trans (H1.out.1.mono (by simp))).trans (HG2.out.1.trans (H3.out.2.1.mono (Nat.le_trans (Nat.le_trans (by simp) H1.out.1.size) HG2.out.1.size))))
  obtain ⟨dd, hdd, hdb⟩ : ∃ dd, D = some dd ∧ dd.block < B := by
    obtain ⟨dd, e, hb, _⟩ := HDD.out 0 (by rw [content_len, HN.out]; have := HII.out; have := HN.out; omega)
    exact ⟨dd, e, hb⟩
  subst hdd
  have HLN : Hid (IntsAt .u8 w B (some (dd.add q)) (lbytes (applyW (S.pers i) ((S.hist i).take (ks i))) 8)) := Lib.hid (by
    have h3 := (IntsAt.drop HDD.out q).take 64
    rw [← HQ.out, content_line S ks S.n i HII.out] at h3
    rw [← HQ.out]
    exact h3)
  have HFN : Hid (∀ j, S.pers i j < 18446744073709551616) := Lib.hid (HSS.out.pers i)
  have HHS : Hid (∀ p ∈ S.hist i, p.1 % 8 = 0 ∧ p.1 < 18446744073709551616 ∧ p.2 < 18446744073709551616) := Lib.hid fun p hp => by
    have h1 := HSS.out.hist i p hp
    exact ⟨h1.2.1, by have := h1.2.2.1; omega, h1.2.2.2⟩
  have hsum := HSS.out.sum i
  have hKL := HKI.out
  generalize S.pers i = f0 at *
  generalize ks i = K at *
  obtain ⟨h, hh⟩ : ∃ h, S.hist i = h := ⟨_, rfl⟩
  rw [hh] at HPA HLN HHS hKL hsum ⊢
  obtain ⟨L, hL⟩ : ∃ L, h.length = L := ⟨_, rfl⟩
  have HL := Lib.hid hL
  rw [hL] at hKL hsum ⊢
  have hL6 : L ≤ 1000000 := by omega
  clear hh hL hsum hgh hp3 H1 HQ2 HE2 HG2 HO2 hcp1 hcp2 hcpl HPB
  go_loopw [9] (fun i' wr => ∃ k : Nat, k ≤ K ∧ i' = .int .i64 k ∧ Hid (OwnInts .u8 5 wr w.heap.size (.slice (some ⟨g, 0, none⟩) 64 cap) (lbytes (applyW f0 (h.take k)) 8) ∧ Only (fun b => b = g) w3 wr)) (fun i' _ => K - (intOf i').toNat)
  case atStart => exact ⟨0, by omega, rfl, Lib.hid ⟨HO3.out, Only.refl _ _⟩⟩
  case round =>
    obtain ⟨k, hk, rfl, HR⟩ := hrel
    have hBw : Below w.heap.size w wr := HB3.out.trans (HR.out.2.below HB3.out.size (fun b hb => by rw [hb]; exact hgb))
    have HBW := Lib.hid hBw
    have hln := HLN.out.below (hBw.mono hB)
    have hrg : ∀ kk, ∀ z ∈ lbytes (applyW f0 (h.take kk)) 8, 0 ≤ z ∧ z ≤ 255 := fun kk => lbytes_range _ (applyW_lt _ _ HFN.out (fun p hp => (HHS.out p (List.mem_of_mem_take hp)).2.2))
    have hkb : ∀ j, (convert 22 9 (.slice (some ⟨g, 0, none⟩) 64 cap)).run Try.prog (wr.drewN j) = .ok (.string (bstr (lbytes (applyW f0 (h.take k)) 8))) (wr.drewN j) := fun j => by
      obtain ⟨A0, c0, e0, _, _, _, hI⟩ := HR.out.1.form
      cases e0
      exact conv_bytes Try.underlying22 Try.underlying5 Try.underlying9 (hI.drewN j) (by rw [lbytes_len])
    have hkp : ∀ j, (convert 22 9 (.slice (some (dd.add q)) 64 (c - q))).run Try.prog (wr.drewN j) = .ok (.string (bstr (lbytes (applyW f0 (h.take K)) 8))) (wr.drewN j) := fun j => conv_bytes Try.underlying22 Try.underlying5 Try.underlying9 (hln.drewN j) (by rw [lbytes_len])
    have HNE : Hid ((bstr (lbytes (applyW f0 (h.take k)) 8)).toList ≠ (bstr (lbytes (applyW f0 (h.take K)) 8)).toList → k < K) := Lib.hid fun hne => by
      rcases Nat.lt_or_ge k K with h1 | h1
      · exact h1
      · have : k = K := by omega
        exact absurd (by rw [this]) hne
    obtain ⟨sa, hsa⟩ : ∃ sa, bstr (lbytes (applyW f0 (h.take k)) 8) = sa := ⟨_, rfl⟩
    obtain ⟨sb, hsb⟩ : ∃ sb, bstr (lbytes (applyW f0 (h.take K)) 8) = sb := ⟨_, rfl⟩
    rw [hsa] at hkb HNE
    rw [hsb] at hkp HNE
    clear hsa hsb hln hrg hBw
    by_cases hab : sa.toList = sb.toList
    · have hab2 : (sa.toList == sb.toList) = true := by simpa using hab
      clear hab
      go_wp2
      go_quiet (fail)
      go_wp2
      go_ret
      exact ⟨rfl, Lib.hid (HBW.out.trans (below_drewN _ _ _))⟩
    · have hab2 : (sa.toList == sb.toList) = false := by simpa using hab
      have hlt : k < K := HNE.out hab
      have hkLi : ((k : Int) == (L : Int)) = false := by simp; omega
      have hkLn : ¬ (k : Int) = (L : Int) := by omega
      have hkL : k < L := by omega
      have hkl2 : k < h.length := by rw [HL.out]; exact hkL
      go_wp2
      go_quiet (fail)
      have HR2 : Hid (OwnInts .u8 5 (wr.drewN nq) w.heap.size (.slice (some ⟨g, 0, none⟩) 64 cap) (lbytes (applyW f0 (h.take k)) 8) ∧ Only (fun b => b = g) w3 (wr.drewN nq)) := Lib.hid ⟨HR.out.1, HR.out.2.drewN _⟩
      clear hkb hkp hab hab2 HR HBW HNE
      generalize wr.drewN nq = wq at *
      obtain ⟨gh, hC3, hp1, hp2⟩ := HPA.out k hkl2
      have hghl : w2.heap.size ≤ gh := HGH.out gh hC3
      have hgd : h.getD k (0, 0) = h[k] := by simp [List.getD, hkl2]
      rw [hgd] at hp1 hp2
      have hhk := HHS.out _ (List.getElem_mem hkl2)
      have HT := Lib.hid (show h.take (k + 1) = h.take k ++ [h[k]] from List.take_succ_eq_append_getElem hkl2)
      generalize h[k] = pr at *
      obtain ⟨o, v⟩ := pr
      simp only at hp1 hp2 hhk
      obtain ⟨ho8, ho64, hv64⟩ := hhk
      subst hC3
      obtain ⟨f, hf⟩ : ∃ f, applyW f0 (h.take k) = f := ⟨_, rfl⟩
      rw [hf] at HR2
      obtain ⟨j0, hj0⟩ : ∃ j0, o / 8 % 8 = j0 := ⟨_, rfl⟩
      have hj8 : j0 < 8 := by omega
      have HNX : Hid (lbytes (applyW f0 (h.take (k + 1))) 8 = part f j0 v 8) := Lib.hid (by rw [HT.out, applyW_snoc, hf, part_full f j0 v hj8]; simp only [hj0])
      obtain ⟨o64, hoo⟩ : ∃ o64, o % 64 = o64 := ⟨_, rfl⟩
      have hoj : o64 = 8 * j0 := by omega
      have m1 : (o : Int) % 64 = (o64 : Int) := by omega
      have m2 : (o : Int).tmod 64 = (o64 : Int) := by rw [Int.tmod_eq_emod_of_nonneg (by omega)]; exact m1
      have m3 : IntKind.i64.wrap (o64 : Int) = (o64 : Int) := IntWalk.i64_in _ (by omega)
      have HOJ := Lib.hid hoj
      have hgg : gh ≠ g := by omega
      clear hf hj0 hoo hoj ho8 hgd HT
      rw [show q + 64 - q = 64 by omega]
      go_wp2
      go_loopw [41] (fun i' wr => ∃ j : Nat, j ≤ 8 ∧ i' = .int .i64 j ∧ Hid (OwnInts .u8 5 wr w.heap.size (.slice (some ⟨g, 0, none⟩) 64 cap) (part f j0 v j) ∧ Only (fun b => b = g) w3 wr)) (fun i' _ => 8 - (intOf i').toNat)
      case atStart => exact ⟨0, by omega, rfl, Lib.hid ⟨by rw [part_zero]; exact HR2.out.1, HR2.out.2⟩⟩
      case round =>
        obtain ⟨j, hj, rfl, HP⟩ := hrel
        by_cases hj88 : j < 8
        · have hji : (j : Int) < 8 := by omega
          obtain ⟨b, hb, hbe, hbw, hb0, hb1⟩ := byte_of v j hv64 hj88
          obtain ⟨x, hx⟩ : ∃ x, 8 * j0 + j = x := ⟨_, rfl⟩
          obtain ⟨s, hs⟩ : ∃ s, 8 * j = s := ⟨_, rfl⟩
          rw [hs] at hbw hb0 hb1
          have hxw : IntKind.i64.wrap ((o64 : Int) + (j : Int)) = (x : Int) := by have := HOJ.out; rw [IntWalk.i64_in _ (by omega)]; omega
          have hsw : IntKind.i64.wrap (8 * (j : Int)) = (s : Int) := by rw [IntWalk.i64_in _ (by omega)]; omega
          have hx64 : x < 64 := by omega
          have hs56 : s ≤ 56 := by omega
          have HST : Hid ((part f j0 v j).set x (b : Int) = part f j0 v (j + 1)) := Lib.hid (by rw [← part_step f j0 v j hj8 hj88, hbe, hx])
          have hpl := part_len f j0 v j hj8 (by omega)
          have HBL : Hid (OwnInts .u8 5 wr w.heap.size (.slice (some ⟨g, 0, none⟩) 64 cap) (part f j0 v j)) := Lib.hid HP.out.1
          obtain ⟨c1, f1⟩ := HP.out.1.cell x (by rw [hpl]; exact hx64)
          have hg1 : wr.cell? ⟨gh, k * 2, none⟩ = some (.int .u64 (o : Int)) := by
            rw [World.cell?_of_block (w := w3) (a := ⟨gh, k * 2, none⟩) (HP.out.2.block gh (cell_lt hp1) hgg)]
            exact hp1
          have hg2 : wr.cell? ⟨gh, k * 2 + 1, none⟩ = some (.int .u64 (v : Int)) := by
            rw [World.cell?_of_block (w := w3) (a := ⟨gh, k * 2 + 1, none⟩) (HP.out.2.block gh (cell_lt hp1) hgg)]
            exact hp2
          have HOx : Hid (OwnInts .u8 5 (wr.setCell ⟨g, x, none⟩ (.int .u8 (b : Int))).drew w.heap.size (.slice (some ⟨g, 0, none⟩) 64 cap) (part f j0 v (j + 1)) ∧ Only (fun b => b = g) w3 (wr.setCell ⟨g, x, none⟩ (.int .u8 (b : Int))).drew) := Lib.hid ⟨by rw [← HST.out]; exact (HP.out.1.stored hpl x (b : Int)), (HP.out.2.set _ _ (.inl rfl)).drew⟩
          have hx0 : (0 : Int) ≤ (x : Int) := by omega
          have hx64i : (x : Int) < 64 := by omega
          have hx64j : decide ((x : Int) < 64) = true := by simp; omega
          have hwxx : IntKind.i64.wrap (x : Int) = (x : Int) := IntWalk.i64_in _ (by omega)
          have hki : (k : Int) < (L : Int) := by omega
          have hk0 : (0 : Int) ≤ (k : Int) := by omega
          have hwk : IntKind.i64.wrap (k : Int) = (k : Int) := IntWalk.i64_in _ (by omega)
          have hs0 : (0 : Int) ≤ (s : Int) := by omega
          clear hbe hx hs hpl hp1 hp2
          go_wp2
          go_still_tail 20, (by kernel_rfl)
          repeat still_step
          try refine wpStill_nil ?_
          change wpList _ _ _ _ _ wr.drew
          go_wp2
          go_roundw
          case rel => exact ⟨j + 1, by omega, by go_num, HOx⟩
          case measure => simp [intOf]; omega
        · have hj8' : j = 8 := by omega
          have hji : ¬ (j : Int) < 8 := by omega
          subst hj8'
          go_wp2
          go_roundw
          case rel => exact ⟨k + 1, by omega, by go_num, Lib.hid ⟨by rw [HNX.out]; exact HP.out.1, HP.out.2⟩⟩
          case measure => simp [intOf]; omega
end Go.Proofs.Ytbonponclcehiaa.Dev
/-
  DevicePrefixes: the walk of the law.
-/
namespace Go.Proofs.Ytbonponclcehiaa.Dev
open Go.ChangeShapes Go.WideShapes Go.ChangeAt Go.RowKit Go.Proofs.Ytbonponclcehiaa.Mem Go.Proofs.Ytbonponclcehiaa.Args Go.Proofs.Ytbonponclcehiaa.Own Go.Proofs.Ytbonponclcehiaa.PackMath
/-- Is the value one that was persisted or stored? -/
def okb (h : List (Nat × Nat)) (pj vp o t : Nat) : Bool := (vp == pj) || (h.take t).any fun p => p.1 == o && p.2 == vp
theorem okb_succ (h : List (Nat × Nat)) (pj vp o t : Nat) (ht : t < h.length) : okb h pj vp o (t + 1) = (okb h pj vp o t || ((h[t]).1 == o && (h[t]).2 == vp)) := by
  unfold okb
  rw [List.take_succ_eq_append_getElem ht, List.any_append]
  simp [Bool.or_assoc]
theorem okb_full {S : St} {M : Nat} (hS : S.Ok M) (i j K : Nat) (hj : j < 8) (hK : K ≤ (S.hist i).length) : okb (S.hist i) (S.pers i j) (applyW (S.pers i) ((S.hist i).take K) j) (64 * i + 8 * j) (S.hist i).length = true := by
  unfold okb
  rcases applyW_mem ((S.hist i).take K) (S.pers i) j with e | ⟨p, hp, e1, e2⟩
  · rw [e]; simp
  · have hm := List.mem_of_mem_take hp
    have h1 := hS.hist i p hm
    have ho : p.1 = 64 * i + 8 * j := by omega
    rw [List.take_length]
    have : (S.hist i).any (fun p => p.1 == 64 * i + 8 * j && p.2 == applyW (S.pers i) ((S.hist i).take K) j) = true := List.any_eq_true.2 ⟨p, hm, by simp [ho, e2]⟩
    rw [this]; simp
/-- The image and the persisted content, as rows whose words are known. -/
theorem bf_imagerow {w0 w : World} {d r M m cap B : Nat} {S : St} {C : Option Addr} {ch : List Int} (hP : BothF w0 w d r S S) (hS : S.Ok M) (hM : M ≤ 1000000) (hl : ch.length = m) (hmm : m ≤ 140737488351232) (hc : IntsAt .u8 w B C ch) (hB : B ≤ w.heap.size) (hw : ∀ z ∈ ch, 0 ≤ z ∧ z ≤ 255) :
    Calls Try.prog 33 #[.pointer (some ⟨d, 0, none⟩), .slice C m cap] w fun e w' => ∃ D c, e = .returned (.slice D (64 * S.n) c) ∧ Hid (Below w.heap.size w w' ∧ BothF w0 w' d r S S ∧ 64 * S.n ≤ c ∧ c ≤ maxLen ∧ IntsAt .u8 w' w'.heap.size D (content S (pickOf S ch) S.n)) := by
  refine (bk_image hP C m cap B ch hS hM hl hmm hc hB hw).mono ?_
  rintro e w' ⟨v, e1, H⟩
  obtain ⟨D, c, e2, h1, h2, _, hi⟩ := H.out.1.form
  subst e2
  rw [content_len] at e1 h1
  exact ⟨D, c, e1, Lib.hid ⟨H.out.2.1, H.out.2.2, h1, h2, hi⟩⟩
theorem row_word (w : World) (D : Option Addr) (S : St) (M z c B i j : Nat) (ks : Nat → Nat) (hS : S.Ok M) (hz : 64 * S.n = z) (hD : IntsAt .u8 w B D (content S ks S.n)) (hi : i < S.n) (hj : j < 8) :
    Calls Try.prog 46 #[.slice D z c, .int .u64 ((64 * i + 8 * j : Nat) : Int)] w fun q w' => q = .returned (.int .u64 (applyW (S.pers i) ((S.hist i).take (ks i)) j : Int)) ∧ w' = w := by
  have hn1 := hS.n1
  have hw := word_any w D z c B (64 * i + 8 * j) (content S ks S.n) (by rw [content_len]; exact hz) (by omega) (by omega) (Lib.hid hD) (Lib.hid (content_range S hS _ _))
  rw [leTo_content S ks S.n (64 * i + 8 * j) (by omega) (by omega), show (64 * i + 8 * j) / 64 = i by omega, show (64 * i + 8 * j) / 8 % 8 = j by omega] at hw
  exact hw
theorem bf_persword {w0 w : World} {d r M z i j : Nat} {S : St} (hP : BothF w0 w d r S S) (hS : S.Ok M) (hM : M ≤ 1000000) (hz : 64 * S.n = z) (hi : i < S.n) (hj : j < 8) :
    Calls Try.prog 20 #[.pointer (some ⟨d, 0, none⟩)] w fun e w' => ∃ D c, e = .returned (.slice D z c) ∧ Hid (Below w.heap.size w w') ∧ Hid (Calls Try.prog 46 #[.slice D z c, .int .u64 ((64 * i + 8 * j : Nat) : Int)] w' fun q w2 => q = .returned (.int .u64 (S.pers i j : Int)) ∧ w2 = w') := by
  refine (bk_persisted hP hS hM).mono ?_
  rintro e w' ⟨v, e1, H⟩
  obtain ⟨D, c, e2, h1, h2, _, hI⟩ := H.out.1.form
  subst e2
  rw [content_len, hz] at e1
  exact ⟨D, c, e1, Lib.hid H.out.2.1, Lib.hid (row_word w' D S M z c w'.heap.size i j (fun _ => 0) hS hz hI hi hj)⟩
/-- A row's word, by the law's word. -/
structure WordIs (w : World) (X : Option Addr) (z c o v : Nat) : Prop where
  call : Calls Try.prog 46 #[.slice X z c, .int .u64 (o : Int)] w fun q w' => q = .returned (.int .u64 (v : Int)) ∧ w' = w
theorem okb_zero (h : List (Nat × Nat)) (pj vp o : Nat) : ((vp : Int) == (pj : Int)) = okb h pj vp o 0 := by
  unfold okb
  rw [Bool.eq_iff_iff]
  simp
  omega
set_option maxRecDepth 100000 in
set_option maxHeartbeats 2000000 in
theorem prefixes_walk (W : World) (L : Int) (E : Option Addr) (n c : Nat) (hE : EvsAt W W.heap.size E n) (hn : n ≤ maxLen) (A1 : Option Addr) (n1 c1 : Nat) (z1 : List Int) (l1 : z1.length = n1) (b1 : n1 ≤ c1) (m1 : c1 ≤ maxLen) (r1 : IntsAt .u8 W W.heap.size A1 z1) (w1 : ∀ z ∈ z1, (Lit.int .u8 z).wf = true) :
    Calls Try.prog 8 #[.agg #[.int .i64 L, .slice E n c], .slice A1 n1 c1] W fun e W' => e = .returned (.bool true) ∧ Below W.heap.size W W' := by
  have HSHORT : Hid (∀ w, Below W.heap.size W w → Calls Try.prog 13 #[.slice A1 n1 c1, .int .i64 20] w fun q w' => q = .returned (.slice A1 (min n1 20) c1) ∧ w' = w) := Lib.hid fun w hb => short_any w A1 n1 c1 W.heap.size z1 l1 b1 m1 (r1.below hb)
  obtain ⟨ch, hchl, hchr, hchw⟩ := short_ints l1 r1 w1
  obtain ⟨m, hm⟩ : ∃ m, min n1 20 = m := ⟨_, rfl⟩
  rw [hm] at hchl HSHORT
  have hm20 : m ≤ 20 := by omega
  have HCL := Lib.hid hchl
  have HCR := Lib.hid hchr
  have HCW := Lib.hid hchw
  have HP : Hid (∀ w, Below W.heap.size W w → Calls Try.prog 41 #[.agg #[.int .i64 L, .slice E n c], .int .i64 40] w fun q w' => ∃ d r : Nat, q = .returned (.tuple #[.pointer (some ⟨d, 0, none⟩), .pointer (some ⟨r, 0, none⟩)]) ∧ Hid (∃ w0 S, BothF w0 w' d r S S ∧ S.Ok 80 ∧ Below w.heap.size w w0)) := Lib.hid fun w hb => by
    refine (play_any w L E n c 40 (by omega) (fun j hj => ?_) hn).mono ?_
    · obtain ⟨ad, e, hB, rest⟩ := hE.below hb j hj
      exact ⟨ad, e, Nat.lt_of_lt_of_le hB hb.size, rest⟩
    · rintro q w' ⟨d, r, k, w0, e, H⟩
      obtain ⟨⟨S, hbo, hok⟩, hk, _, hbw⟩ := H.out
      exact ⟨d, r, e, Lib.hid ⟨w0, S, hbo.bothF, hok.more (by omega), hbw⟩⟩
  obtain ⟨wb, hwb⟩ : ∃ wb, W.alloc (.cells #[.int .i64 L, .slice E n c] 57) = wb := ⟨_, rfl⟩
  have HBB : Hid (Below W.heap.size W wb) := by rw [← hwb]; exact (Below.refl _ _).alloc (Nat.le_refl _) _
  have hb0 : wb.cell? ⟨W.heap.size, 0, none⟩ = some (.int .i64 L) := by rw [← hwb]; exact (Blk.new W _ _).cell (o := 0) (by show 0 < 2; omega)
  have hb1 : wb.cell? ⟨W.heap.size, 1, none⟩ = some (.slice E n c) := by rw [← hwb]; exact (Blk.new W _ _).cell (o := 1) (by show 1 < 2; omega)
  have HWB := Lib.hid hwb
  clear hE hwb hn l1 b1 m1 r1 w1 hchl hchr hchw hm
  go_enter Try.func8, Try.ntmps8
  go_upto_region 1 with (fail)
  rw [HWB.out]
  go_upto_region 6 with (first
    | (go_at_call 13; go_must (refine (HSHORT.out _ HBB.out).mono ?_); rintro e w' ⟨rfl, hw⟩; have hw2 := hw.symm; clear hw; subst hw2)
    | (go_at_call 41; go_must (refine (HP.out _ HBB.out).mono ?_); rintro e w1 ⟨d, r, rfl, H1⟩; obtain ⟨w0, S, hbf, hok, hbw⟩ := H1.out; have HB1 := Lib.hid hbf; have HOK := Lib.hid hok; have HBW := Lib.hid hbw; clear H1 hbf hok hbw hb0 hb1)
    | (go_at_call 12; go_must (refine (awake_any _).mono ?_); rintro e w2 ⟨rfl, H2⟩; have HB2 : Hid (BothF w0 w2 d r S S) := Lib.hid (BothK.below HB1.out H2.out); have HW2 : Hid (Below W.heap.size W w2) := Lib.hid (HBB.out.trans ((HBW.out.trans ((BothF.base HB2.out).mono HBW.out.size)).mono HBB.out.size)))
    | (go_at_call 33; go_must (refine (bf_imagerow HB2.out HOK.out (by omega) HCL.out (by omega) (HCR.out.below HW2.out) HW2.out.size HCW.out).mono ?_); rintro e w3 ⟨D, cD, rfl, H3⟩))
  obtain ⟨nn, hnn⟩ : ∃ nn, S.n = nn := ⟨_, rfl⟩
  have HNN := Lib.hid hnn
  obtain ⟨z, hz⟩ : ∃ z, 64 * nn = z := ⟨_, rfl⟩
  rw [hnn, hz]
  have HZ : Hid (64 * S.n = z) := Lib.hid (by rw [hnn]; exact hz)
  have hn4 : nn ≤ 4096 := by rw [← hnn]; exact HOK.out.n1
  have hzi : IntKind.i64.wrap (64 * (nn : Int)) = (z : Int) := by rw [IntWalk.i64_in _ (by omega)]; omega
  have HW3 : Hid (Below W.heap.size W w3) := Lib.hid (HW2.out.trans (H3.out.1.mono HW2.out.size))
  have hcz : z ≤ cD := by rw [← hz, ← hnn]; exact H3.out.2.2.1
  have HCM := Lib.hid H3.out.2.2.2.1
  have HRW := Lib.hid H3.out.2.2.2.2
  have HB3 := Lib.hid H3.out.2.1
  have HLI : Hid (∀ w', Below w3.heap.size w3 w' → Calls Try.prog 25 #[.pointer (some ⟨d, 0, none⟩)] w' fun q w2 => q = .returned (.int .i64 (nn : Int)) ∧ w2 = w') := Lib.hid fun w' hb => by
    have := bk_lines (BothK.below HB3.out hb)
    rw [hnn] at this
    exact this
  have hS0 : Below w3.heap.size w3 w3 := Below.refl _ _
  clear hnn HB1 HB2 H2 H3 HP HSHORT
  go_wp2_with (go_at_call 25; go_must (refine (HLI.out _ hS0).mono ?_); rintro e w' ⟨rfl, hw⟩; have hw2 := hw.symm; clear hw; subst hw2)
  clear hzi
  go_loopw [37] (fun i wr => ∃ k : Nat, k ≤ nn ∧ i = .int .i64 k ∧ Hid (Below w3.heap.size w3 wr)) (fun i _ => nn - (intOf i).toNat)
  case atStart => exact ⟨0, by omega, rfl, Lib.hid (Below.refl _ _)⟩
  case round =>
    obtain ⟨k, hk, rfl, HR⟩ := hrel
    by_cases hkn : k < nn
    · have hki : (k : Int) < (nn : Int) := by omega
      have hkS : k < S.n := by rw [HNN.out]; exact hkn
      have HKS := Lib.hid hkS
      have HPF : Hid (Calls Try.prog 45 #[.pointer (some ⟨d, 0, none⟩), .slice D z cD, .int .i64 (k : Int)] wr fun q w' => q = .returned (.bool true) ∧ Hid (Below wr.heap.size wr w')) := Lib.hid (prefix_any wr w0 d r 80 S D z cD w3.heap.size k (pickOf S ch) (BothK.below HB3.out HR.out) HOK.out (by omega) HZ.out hcz HCM.out (HRW.out.below HR.out) HR.out.size (fun i => pickOf_le _ _ _) hkS)
      obtain ⟨q, hq⟩ : ∃ q, 64 * k = q := ⟨_, rfl⟩
      have hq1 : IntKind.i64.wrap (64 * (k : Int)) = (q : Int) := by rw [IntWalk.i64_in _ (by omega)]; omega
      have hq2 : IntKind.u64.wrap (q : Int) = (q : Int) := by rw [IntKind.wrap_u64]; omega
      have hq3 : IntKind.i64.wrap ((q : Int) + 64) = (q : Int) + 64 := IntWalk.i64_in _ (by omega)
      have hq4 : IntKind.u64.wrap ((q : Int) + 64) = (q : Int) + 64 := by rw [IntKind.wrap_u64]; omega
      have hqb : q ≤ 262144 := by omega
      have HQ := Lib.hid hq
      clear hkS hq
      go_wp2_with (go_at_call 45; go_must (refine HPF.out.mono ?_); rintro e w4 ⟨rfl, H4⟩)
      have HB4 : Hid (Below w3.heap.size w3 w4) := Lib.hid (HR.out.trans (H4.out.mono HR.out.size))
      clear HPF HR H4
      go_loopw [9] (fun v wr => ∃ j o : Nat, j ≤ 8 ∧ v = .int .u64 o ∧ Hid (o = 64 * k + 8 * j) ∧ Hid (Below w3.heap.size w3 wr)) (fun v _ => q + 64 - (intOf v).toNat)
      case atStart => exact ⟨0, q, by omega, rfl, Lib.hid (by have := HQ.out; omega), HB4⟩
      case round =>
        obtain ⟨j, o, hj, rfl, HO, HR⟩ := hrel
        by_cases hj8 : j < 8
        · have hoi : (o : Int) < (q : Int) + 64 := by have := HO.out; have := HQ.out; omega
          obtain ⟨vp, hvp⟩ : ∃ vp, applyW (S.pers k) ((S.hist k).take (pickOf S ch k)) j = vp := ⟨_, rfl⟩
          obtain ⟨pj, hpj⟩ : ∃ pj, S.pers k j = pj := ⟨_, rfl⟩
          have HWD : Hid (∀ w', Below w3.heap.size w3 w' → WordIs w' D z cD o vp) := Lib.hid fun w' hb => ⟨by
            have := row_word w' D S 80 z cD w3.heap.size k j (pickOf S ch) HOK.out HZ.out (HRW.out.below hb) HKS.out hj8
            rw [hvp, ← HO.out] at this
            exact this⟩
          have HPW : Hid (∀ w', Below w3.heap.size w3 w' → Calls Try.prog 20 #[.pointer (some ⟨d, 0, none⟩)] w' fun e w2 => ∃ D' c', e = .returned (.slice D' z c') ∧ Hid (Below w3.heap.size w3 w2) ∧ Hid (WordIs w2 D' z c' o pj)) := Lib.hid fun w' hb => by
            refine (bf_persword (BothK.below HB3.out hb) HOK.out (by omega) HZ.out HKS.out hj8).mono ?_
            rintro e w2 ⟨D', c', e1, H1, H2⟩
            rw [hpj, ← HO.out] at H2
            exact ⟨D', c', e1, Lib.hid (hb.trans (H1.out.mono hb.size)), Lib.hid ⟨H2.out⟩⟩
          have HHI : Hid (∀ w', Below w3.heap.size w3 w' → Calls Try.prog 31 #[.pointer (some ⟨d, 0, none⟩), .int .i64 (k : Int)] w' fun e w2 => ∃ C c', e = .returned (.slice C (S.hist k).length c') ∧ Hid (PairsAt w2 C (S.hist k)) ∧ Hid (Below w3.heap.size w3 w2)) := Lib.hid fun w' hb => by
            refine (bk_history (BothK.below HB3.out hb) k HOK.out (by omega) HKS.out).mono ?_
            rintro e w2 ⟨v, e1, H⟩
            obtain ⟨C, c', e2, hp⟩ := H.out.1.pairs
            subst e2
            exact ⟨C, c', e1, Lib.hid hp, Lib.hid (hb.trans (H.out.2.1.mono hb.size))⟩
          have HOKF : Hid (okb (S.hist k) pj vp o (S.hist k).length = true) := Lib.hid (by rw [← hvp, ← hpj, HO.out]; exact okb_full HOK.out k j _ hj8 (pickOf_le _ _ _))
          have hsum := HOK.out.sum k
          obtain ⟨h, hh⟩ : ∃ h, S.hist k = h := ⟨_, rfl⟩
          rw [hh] at HHI HOKF hsum
          obtain ⟨Ln, hL⟩ : ∃ Ln, h.length = Ln := ⟨_, rfl⟩
          have HL := Lib.hid hL
          rw [hL] at HHI HOKF hsum
          have hL6 : Ln ≤ 1000000 := by omega
          have hob : o < 262272 := by have := HO.out; omega
          clear hvp hpj hh hL hsum
          go_wp2_with (first
            | (go_at_call 46; go_must (refine (WordIs.call (by first | exact HP5.out | exact HWD.out _ HR.out)).mono ?_); rintro e w' ⟨rfl, hw⟩; have hw2 := hw.symm; clear hw; subst hw2)
            | (go_at_call 20; go_must (refine (HPW.out _ HR.out).mono ?_); rintro e w5 ⟨D5, c5, rfl, H5, HP5⟩)
            | (go_at_call 31; go_must (refine (HHI.out _ H5.out).mono ?_); rintro e w6 ⟨C6, c6, rfl, HPA, H6⟩))
          go_loopw [10, 68] (fun ok i wr => ∃ t : Nat, t ≤ Ln ∧ i = .int .i64 t ∧ ok = .bool (okb h pj vp o t) ∧ Hid (Below w6.heap.size w6 wr)) (fun _ i _ => Ln - (intOf i).toNat)
          case atStart => exact ⟨0, by omega, rfl, by rw [okb_zero h pj vp o], Lib.hid (Below.refl _ _)⟩
          case round =>
            obtain ⟨t, ht, rfl, rfl, HT⟩ := hrel
            by_cases htL : t < Ln
            · have hti : (t : Int) < (Ln : Int) := by omega
              have htl : t < h.length := by rw [HL.out]; exact htL
              obtain ⟨gh, hC6, p1, p2⟩ := (HPA.out.below HT.out) t htl
              have hgd : h.getD t (0, 0) = h[t] := by simp [List.getD, htl]
              rw [hgd] at p1 p2
              have HSU := Lib.hid (okb_succ h pj vp o t htl)
              generalize h[t] = pr at *
              obtain ⟨xo, xv⟩ := pr
              simp only at p1 p2 HSU
              subst hC6
              have hghl : gh < wr.heap.size := cell_lt p1
              obtain ⟨wa, hwa⟩ : ∃ wa, wa = wr.alloc (.cells #[.int .u64 (xo : Int), .int .u64 (xv : Int)] 71) := ⟨_, rfl⟩
              have na0 : wa.cell? ⟨wr.heap.size, 0, none⟩ = some (.int .u64 (xo : Int)) := by rw [hwa]; exact new_cell wr _ _ 0 rfl
              have na1 : wa.cell? ⟨wr.heap.size, 1, none⟩ = some (.int .u64 (xv : Int)) := by rw [hwa]; exact new_cell wr _ _ 1 rfl
              have HBA : Hid (Below w6.heap.size w6 wa) := Lib.hid (by rw [hwa]; exact HT.out.alloc HT.out.size _)
              have HWA := Lib.hid hwa
              clear hgd hwa
              go_upto_region 20 with (fail)
              rw [← HWA.out]
              have HWQ : Hid (∀ j, WordIs (wa.drewN j) D z cD o vp) := Lib.hid fun j => HWD.out _ (H6.out.trans ((HBA.out.trans (below_drewN _ _ _)).mono H6.out.size))
              have HBQ : Hid (∀ j, Below w6.heap.size w6 (wa.drewN j)) := Lib.hid fun j => HBA.out.trans (below_drewN _ _ _)
              generalize okb h pj vp o t = ob at *
              cases ob with
              | true =>
                have HS2 : Hid (okb h pj vp o (t + 1) = true) := Lib.hid (by rw [HSU.out]; rfl)
                go_quiet (fail)
                go_wp2
                go_roundw
                case rel => exact ⟨t + 1, by omega, by go_num, by rw [HS2.out], Lib.hid (HBQ.out _)⟩
                case measure => simp [intOf]; omega
              | false =>
                by_cases hxo : xo = o
                · subst hxo
                  by_cases hxv : xv = vp
                  · subst hxv
                    have HS2 : Hid (okb h pj xv xo (t + 1) = true) := Lib.hid (by rw [HSU.out]; simp)
                    go_quiet ((go_at_call 46; go_must (exact Calls.quiet_of_same (WordIs.call (HWQ.out _)))))
                    go_wp2
                    go_roundw
                    case rel => exact ⟨t + 1, by omega, by go_num, by rw [HS2.out], Lib.hid (HBQ.out _)⟩
                    case measure => simp [intOf]; omega
                  · have hvi : ((xv : Int) == (vp : Int)) = false := by simp; omega
                    have hvn : ¬ (xv : Int) = (vp : Int) := by omega
                    have HS2 : Hid (okb h pj vp xo (t + 1) = false) := Lib.hid (by rw [HSU.out]; simp [hxv])
                    clear hxv
                    go_quiet ((go_at_call 46; go_must (exact Calls.quiet_of_same (WordIs.call (HWQ.out _)))))
                    go_wp2
                    go_roundw
                    case rel => exact ⟨t + 1, by omega, by go_num, by rw [HS2.out], Lib.hid (HBQ.out _)⟩
                    case measure => simp [intOf]; omega
                · have hoi2 : ((xo : Int) == (o : Int)) = false := by simp; omega
                  have hon2 : ¬ (xo : Int) = (o : Int) := by omega
                  have HS2 : Hid (okb h pj vp o (t + 1) = false) := Lib.hid (by rw [HSU.out]; simp [hxo])
                  clear hxo
                  go_quiet (fail)
                  go_wp2
                  go_roundw
                  case rel => exact ⟨t + 1, by omega, by go_num, by rw [HS2.out], Lib.hid (HBQ.out _)⟩
                  case measure => simp [intOf]; omega
            · have htn : t = Ln := by omega
              have hti : ¬ (t : Int) < (Ln : Int) := by omega
              subst htn
              rw [HOKF.out]
              have hon : IntKind.u64.wrap ((o : Int) + 8) = ((o + 8 : Nat) : Int) := by rw [IntKind.wrap_u64]; omega
              go_wp2
              go_roundw
              case rel => exact ⟨j + 1, o + 8, by omega, by go_num, Lib.hid (by have := HO.out; omega), Lib.hid (H6.out.trans (HT.out.mono H6.out.size))⟩
              case measure => simp [intOf]; omega
        · have hoi : ¬ (o : Int) < (q : Int) + 64 := by have := HO.out; have := HQ.out; omega
          go_wp2
          go_roundw
          case rel => exact ⟨k + 1, by omega, by go_num, HR⟩
          case measure => simp [intOf]; omega
    · have hki : ¬ (k : Int) < (nn : Int) := by omega
      go_wp2
      go_ret
      exact ⟨rfl, HW3.out.trans (HR.out.mono HW3.out.size)⟩
end Go.Proofs.Ytbonponclcehiaa.Dev
namespace Go.Proofs.Ytbonponclcehiaa.devicePrefixes
open Go.ChangeShapes Go.WideShapes Go.ChangeAt Go.RowKit Go.Proofs.Ytbonponclcehiaa.Law Go.Proofs.Ytbonponclcehiaa.Args
set_option linter.unusedVariables false
set_option linter.unusedSimpArgs false
open Go.Proofs.Ytbonponclcehiaa.Mem Go.Proofs.Ytbonponclcehiaa.Own Go.Proofs.Ytbonponclcehiaa.Dev
theorem walk (W : World) (L : Int) (E : Option Addr) (n c : Nat) (hE : EvsAt W W.heap.size E n) (hn : n ≤ maxLen) (A1 : Option Addr) (n1 c1 : Nat) (z1 : List Int) (l1 : z1.length = n1) (b1 : n1 ≤ c1) (m1 : c1 ≤ maxLen) (_ : c1 * 1 ≤ 140737488351232) (r1 : IntsAt .u8 W W.heap.size A1 z1) (w1 : ∀ z ∈ z1, (Lit.int .u8 z).wf = true) :
    Calls Try.prog 8 #[.agg #[.int .i64 L, .slice E n c], .slice A1 n1 c1] W fun e W' => e = .returned (.bool true) ∧ Below W.heap.size W W' := prefixes_walk W L E n c hE hn A1 n1 c1 z1 l1 b1 m1 r1 w1

/-! ### the frame -/
theorem cells5 : Try.prog.cellsOf 5 = 1 := by kernel_rfl
theorem own : ownKnob Try.prog.godebug = none := by kernel_rfl
set_option maxRecDepth 100000 in
theorem calls {H : Type} {enc : TypeId × Value → H} (W : World) (base : Nat) (args : Array Value) (ds : List (DataW H)) (p : List MemPlace)
    (hval0 : ∀ (j : Nat) t v, Try.f8.params[j]? = some t → args[j]? = some v → Value.okWide Try.prog W .any base t v)
    (hA : DataW.TrodAll enc Try.prog W 0 (fun _ => true) true Try.f8.params.toList args.toList ds p) (_ : W.noneFrozen p)
    (hsz : (DataW.weightsEach Try.prog Try.f8.params.toList ds).all (· ≤ reachBytes) = true) :
    Calls Try.prog 8 args W fun e W' => e = .returned (.bool true) ∧ Below W.heap.size W W' := by
  have hval : ∀ (j : Nat) t v, Try.f8.params[j]? = some t → args[j]? = some v → Value.okWide Try.prog W .any base t v := hval0
  clear hval0
  rw [Try.params8] at hA hval hsz
  obtain ⟨v0, vs0, d0, ds0, p0, q0, hargs, rfl, rfl, h0, r'0⟩ := trodAll_cons hA
  obtain ⟨v1, vs1, d1, ds1, p1, q1, rfl, rfl, rfl, h1, r'1⟩ := trodAll_cons r'0
  obtain ⟨rfl, rfl, rfl⟩ := trodAll_nil r'1
  obtain rfl : args = #[v0, v1] := by cases args; simp_all
  obtain ⟨L0, E0, n0, c0, rfl, hn0, hE0⟩ := open_run (hval 0 57 v0 rfl rfl) h0
  obtain ⟨A1, n1, c1, z1, rfl, l1, b1, m1, s1, r1, w1⟩ := open_slice_ints (j := 1) (bytes := 1) Try.underlying22 Try.underlying5 cells5 (by kernel_rfl) (hval 1 22 v1 rfl rfl) h1 hsz rfl rfl
  exact walk (W := W) L0 E0 n0 c0 hE0 hn0 A1 n1 c1 z1 l1 b1 m1 s1 r1 w1
set_option maxRecDepth 100000 in
theorem lifted (os : Os) (started : os.Started) (H : Type) (enc : TypeId × Value → H) :
    ReturnsInHanded {} Try.checked os 8 .any (Rows.devicePrefixesSpec.pre6 enc Try.prog Try.f8 Rows.devicePrefixesRow.domain false) (Rows.devicePrefixesSpec.post enc Try.prog Try.f8 false true false false) :=
  law_lifted (C := Try.checked) (s := Rows.devicePrefixesSpec) (b := 4) own (by kernel_rfl) Try.func8 (by kernel_rfl) (by kernel_rfl) rfl Try.underlying4 rfl
    (fun ds h => by match ds, h with | [_, _], _ => rfl) calls os started
    (ChangeSpec.witness6 (enc := enc) (C := Try.checked) false ⟨#[], #[.agg #[.int .i64 0, .slice none 0 0], .slice none 0 0], []⟩ 8 (by kernel_rfl) (by kernel_rfl) (by kernel_rfl) (by kernel_rfl))
/-- ████ THE STATEMENT ████ -/
theorem proved : Rows.DevicePrefixesSaid :=
  OpenClaim.holds_of_wide 8 Try.f8 rfl rfl rfl rfl rfl rfl rfl ⟨rfl, rfl, rfl, rfl, rfl⟩ rfl rfl rfl rfl rfl (by kernel_rfl) Try.func8 (by kernel_rfl)
    (of_decide_eq_true (by kernel_rfl)) (by unfold Func.isWrapper; first | (rw [if_pos (by decide +kernel)]; kernel_rfl) | (rw [if_neg (by decide +kernel)]; exact ⟨rfl, rfl⟩))
    (fun os started H enc _ => lifted os started H enc)
#print axioms proved
end Go.Proofs.Ytbonponclcehiaa.devicePrefixes
