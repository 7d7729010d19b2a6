/-
  THE REFERENCE's DEVICE: Content.
-/
import Derived.Test.YtmipodnfkilcfaaRFlush
set_option linter.unusedVariables false
set_option linter.unusedSimpArgs false
namespace Go.Proofs.Ytmipodnfkilcfaa.Dev
open Go.ChangeShapes Go.WideShapes Go.ChangeAt Go.RowKit Go.Proofs.Ytmipodnfkilcfaa.Mem Go.Proofs.Ytmipodnfkilcfaa.Args Go.Proofs.Ytmipodnfkilcfaa.Own
def kpick (S : St) (kl : List Nat) (i : Nat) : Nat := if 0 < (S.hist i).length then kl.getD (dirtyTo S i).length 0 else 0
theorem ixi0 (a b c d e f g h : Int) (w : World) : (Instr.index 56 (.agg #[.int .u64 a, .int .u64 b, .int .u64 c, .int .u64 d, .int .u64 e, .int .u64 f, .int .u64 g, .int .u64 h]) (.int .i64 0)).run Try.prog w = .ok (.int .u64 a) w := by kernel_rfl
theorem ixi1 (a b c d e f g h : Int) (w : World) : (Instr.index 56 (.agg #[.int .u64 a, .int .u64 b, .int .u64 c, .int .u64 d, .int .u64 e, .int .u64 f, .int .u64 g, .int .u64 h]) (.int .i64 1)).run Try.prog w = .ok (.int .u64 b) w := by kernel_rfl
theorem ixi2 (a b c d e f g h : Int) (w : World) : (Instr.index 56 (.agg #[.int .u64 a, .int .u64 b, .int .u64 c, .int .u64 d, .int .u64 e, .int .u64 f, .int .u64 g, .int .u64 h]) (.int .i64 2)).run Try.prog w = .ok (.int .u64 c) w := by kernel_rfl
theorem ixi3 (a b c d e f g h : Int) (w : World) : (Instr.index 56 (.agg #[.int .u64 a, .int .u64 b, .int .u64 c, .int .u64 d, .int .u64 e, .int .u64 f, .int .u64 g, .int .u64 h]) (.int .i64 3)).run Try.prog w = .ok (.int .u64 d) w := by kernel_rfl
theorem ixi4 (a b c d e f g h : Int) (w : World) : (Instr.index 56 (.agg #[.int .u64 a, .int .u64 b, .int .u64 c, .int .u64 d, .int .u64 e, .int .u64 f, .int .u64 g, .int .u64 h]) (.int .i64 4)).run Try.prog w = .ok (.int .u64 e) w := by kernel_rfl
theorem ixi5 (a b c d e f g h : Int) (w : World) : (Instr.index 56 (.agg #[.int .u64 a, .int .u64 b, .int .u64 c, .int .u64 d, .int .u64 e, .int .u64 f, .int .u64 g, .int .u64 h]) (.int .i64 5)).run Try.prog w = .ok (.int .u64 f) w := by kernel_rfl
theorem ixi6 (a b c d e f g h : Int) (w : World) : (Instr.index 56 (.agg #[.int .u64 a, .int .u64 b, .int .u64 c, .int .u64 d, .int .u64 e, .int .u64 f, .int .u64 g, .int .u64 h]) (.int .i64 6)).run Try.prog w = .ok (.int .u64 g) w := by kernel_rfl
theorem ixi7 (a b c d e f g h : Int) (w : World) : (Instr.index 56 (.agg #[.int .u64 a, .int .u64 b, .int .u64 c, .int .u64 d, .int .u64 e, .int .u64 f, .int .u64 g, .int .u64 h]) (.int .i64 7)).run Try.prog w = .ok (.int .u64 h) w := by kernel_rfl
theorem index8i (f : Nat → Nat) (j : Nat) (hj : j < 8) (w : World) : (Instr.index 56 (.agg #[.int .u64 (f 0 : Int), .int .u64 (f 1 : Int), .int .u64 (f 2 : Int), .int .u64 (f 3 : Int), .int .u64 (f 4 : Int), .int .u64 (f 5 : Int), .int .u64 (f 6 : Int), .int .u64 (f 7 : Int)]) (.int .i64 (j : Int))).run Try.prog w = .ok (.int .u64 (f j : Int)) w := by
  have h : j = 0 ∨ j = 1 ∨ j = 2 ∨ j = 3 ∨ j = 4 ∨ j = 5 ∨ j = 6 ∨ j = 7 := by omega
  rcases h with rfl | rfl | rfl | rfl | rfl | rfl | rfl | rfl
  · exact ixi0 (f 0) (f 1) (f 2) (f 3) (f 4) (f 5) (f 6) (f 7) w
  · exact ixi1 (f 0) (f 1) (f 2) (f 3) (f 4) (f 5) (f 6) (f 7) w
  · exact ixi2 (f 0) (f 1) (f 2) (f 3) (f 4) (f 5) (f 6) (f 7) w
  · exact ixi3 (f 0) (f 1) (f 2) (f 3) (f 4) (f 5) (f 6) (f 7) w
  · exact ixi4 (f 0) (f 1) (f 2) (f 3) (f 4) (f 5) (f 6) (f 7) w
  · exact ixi5 (f 0) (f 1) (f 2) (f 3) (f 4) (f 5) (f 6) (f 7) w
  · exact ixi6 (f 0) (f 1) (f 2) (f 3) (f 4) (f 5) (f 6) (f 7) w
  · exact ixi7 (f 0) (f 1) (f 2) (f 3) (f 4) (f 5) (f 6) (f 7) w
def byteK (x b : Nat) : Int := ((x / 256 ^ b % 256 : Nat) : Int)
def bytesTo (x b : Nat) : List Int := (List.range b).map (byteK x)
theorem bytesTo_succ (x b : Nat) : bytesTo x (b + 1) = bytesTo x b ++ [byteK x b] := by
  simp [bytesTo, List.range_succ]
theorem bytesTo_len (x b : Nat) : (bytesTo x b).length = b := by simp [bytesTo]
theorem bytesTo_all (x : Nat) (hx : x < 18446744073709551616) : bytesTo x 8 = wbytes x := by
  have h : List.range 8 = [0, 1, 2, 3, 4, 5, 6, 7] := rfl
  unfold bytesTo wbytes byteK
  rw [h]
  simp only [List.map_cons, List.map_nil]
  have e7 : x / 256 ^ 7 % 256 = x / 72057594037927936 := by
    rw [show (256 : Nat) ^ 7 = 72057594037927936 from rfl]
    exact Nat.mod_eq_of_lt (by omega)
  rw [e7]
  simp
set_option maxRecDepth 100000 in
set_option maxHeartbeats 2000000 in
theorem rcontent_any (w : World) (base M : Nat) (A : RAdr) (S : St) (K : Option Addr) (m cap B : Nat) (kl : List Nat) (h : IsRef w base A S) (hS : S.Ok M) (hM : M ≤ 1000000) (hl : kl.length = m) (hm : m ≤ 4096) (hr : IntsAt .i64 w B K (ints kl)) (hB : B ≤ w.heap.size) (hle : ∀ i, kpick S kl i ≤ (S.hist i).length) :
    Calls Try.prog 26 #[.pointer (some ⟨A.d, 0, none⟩), .slice K m cap] w fun e w' => ∃ v', e = .returned v' ∧ Hid (OwnInts .u8 5 w' w.heap.size v' (content S (kpick S kl) S.n) ∧ Below w.heap.size w w') := by
  obtain ⟨i0, hi, hz0, hz1, hz2⟩ := info_parts info8
  have HI := Lib.hid hi
  have HZ0 := Lib.hid hz0
  have HZ1 := Lib.hid hz1
  have HZ2 := Lib.hid hz2
  have HD := Lib.hid h
  have HSS := Lib.hid hS
  have c00 := RB.c0 h.dev
  obtain ⟨n, hn⟩ : ∃ n, S.n = n := ⟨_, rfl⟩
  have hn1 := hS.n1
  rw [hn] at hn1 c00 ⊢
  have HN := Lib.hid hn
  have HLE := Lib.hid hl
  have HRR := Lib.hid hr
  have HPL := Lib.hid hle
  clear hi hz0 hz1 hz2 h hS hn hl hr hle
  go_enter Try.func26, Try.ntmps26
  have hlt0 := HD.out.dev.lt
  go_wp2
  clear c00
  go_loopw [5, 6, 19] (fun v dd i wr => ∃ k : Nat, k ≤ n ∧ i = .int .i64 k ∧ dd = .int .i64 ((dirtyTo S k).length : Int) ∧ Hid (OwnInts .u8 5 wr w.heap.size v (content S (kpick S kl) k) ∧ Below w.heap.size w wr)) (fun _ _ i _ => n - (intOf i).toNat)
  case atStart => exact ⟨0, by omega, rfl, rfl, Lib.hid ⟨OwnInts.empty _ _ _ (Nat.le_refl _), (Below.refl _ _).alloc (Nat.le_refl _) _⟩⟩
  case round =>
    obtain ⟨k, hk, rfl, rfl, HR⟩ := hrel
    by_cases hlt : k < n
    · have I1 := HD.out.below HR.out.2 (Nat.le_refl _)
      have hkS : k < S.n := by rw [HN.out]; exact hlt
      obtain ⟨C, c, _, q1, q2, hp, hh, hg, hrow⟩ := I1.line hkS
      have hlb := I1.lines.lt
      have hkl : (k : Int) < (n : Int) := by omega
      have hdl := dirtyTo_len S k
      have hds := dirtyTo_succ S k
      have HCS := Lib.hid (content_succ S (kpick S kl) k)
      have HPK := Lib.hid (HPL.out k)
      have hsum := HSS.out.sum k
      have HWD := fun (w2 : World) (hb : Below wr.heap.size wr w2) (kk : Nat) hkk => Lib.hid (words_any w2 wr.heap.size kk (S.hist k).length c C (S.gone k : Int) (S.pers k) (S.hist k) rfl q1 q2 hkk (fun h0 => by
        obtain ⟨g, e1, e2, e3⟩ := hrow h0
        exact ⟨g, e1, e2, fun o ho => (hb.cell (p := ⟨g, o, none⟩) e2).trans (e3 o ho)⟩) hb.size (HSS.out.fine k))
      have d0 := hp 0 (by decide)
      have d1 := hp 1 (by decide)
      have d2 := hp 2 (by decide)
      have d3 := hp 3 (by decide)
      have d4 := hp 4 (by decide)
      have d5 := hp 5 (by decide)
      have d6 := hp 6 (by decide)
      have d7 := hp 7 (by decide)
      rw [Nat.add_zero] at d0
      have HAP := fun kk => Lib.hid (HSS.out.applied k kk)
      have hcase : (∃ x : Nat, 0 < (S.hist k).length ∧ (dirtyTo S k).length < m ∧ kpick S kl k = x ∧ (dirtyTo S (k + 1)).length = (dirtyTo S k).length + 1 ∧ ∃ ad, K = some ad ∧ wr.cell? (ad.add (dirtyTo S k).length) = some (.int .i64 (x : Int))) ∨
          (0 < (S.hist k).length ∧ m ≤ (dirtyTo S k).length ∧ kpick S kl k = 0 ∧ (dirtyTo S (k + 1)).length = (dirtyTo S k).length + 1) ∨ ((S.hist k).length = 0 ∧ kpick S kl k = 0 ∧ (dirtyTo S (k + 1)).length = (dirtyTo S k).length) := by
        by_cases h0 : 0 < (S.hist k).length
        · have hs1 : (dirtyTo S (k + 1)).length = (dirtyTo S k).length + 1 := by rw [hds, if_pos h0, List.length_append]; rfl
          by_cases h1 : (dirtyTo S k).length < m
          · left
            have hlk : (dirtyTo S k).length < kl.length := by rw [HLE.out]; exact h1
            obtain ⟨ad, e1, e2, e3⟩ := HRR.out (dirtyTo S k).length (by rw [ints_len]; exact hlk)
            refine ⟨kl.getD (dirtyTo S k).length 0, h0, h1, by unfold kpick; rw [if_pos h0], hs1, ad, e1, ?_⟩
            rw [HR.out.2.cell (p := ad.add _) (by rw [add_block]; omega), e3]
            simp [ints, List.getD, hlk]
          · right; left
            exact ⟨h0, by omega, by unfold kpick; rw [if_pos h0]; simp [List.getD, List.getElem?_eq_none (show kl.length ≤ (dirtyTo S k).length by rw [HLE.out]; omega)], hs1⟩
        · right; right
          exact ⟨by omega, by unfold kpick; rw [if_neg h0], by rw [hds, if_neg h0]⟩
      have hdl2 : (dirtyTo S k).length ≤ 4096 := by omega
      clear I1 hp hrow hds hdl
      generalize hcnt : (dirtyTo S k).length = cnt at *
      clear hcnt
      generalize hL : (S.hist k).length = L at *
      clear hL
      rcases hcase with ⟨x, h0, h1, hpk, hs1, ad, rfl, hcell⟩ | ⟨h0, h1, hpk, hs1⟩ | ⟨h0, hpk, hs1⟩
      · have h0i : (0 : Int) < (L : Int) := by omega
        have h1i : (cnt : Int) < (m : Int) := by omega
        have hcell2 : ∀ ob, (wr.alloc ob).cell? (ad.add cnt) = some (.int .i64 (x : Int)) := fun ob => Lib.cell?_alloc_some ob hcell
        have HS1 := Lib.hid hs1
        rw [hpk] at HPK HCS
        have HW := fun w2 hb => HWD w2 hb x HPK.out
        have HAPX := HAP x
        obtain ⟨F, hF⟩ : ∃ F, applyW (S.pers k) ((S.hist k).take x) = F := ⟨_, rfl⟩
        rw [hF] at HW HAPX HCS
        clear HWD hpk hs1 HAP hF
        generalize S.pers k = bp at *
        go_wp2_with (go_at_call 57; refine ((HW _ ((Below.refl _ _).alloc (Nat.le_refl _) _)).out).mono ?_; rintro e w2 ⟨he, hb⟩; simp only [words8, wordG] at he; subst he; have HB := Lib.hid (((Below.refl wr.heap.size wr).alloc (Nat.le_refl _) _).trans (hb.mono (by simp))); clear hb)
        go_loopw [5, 40] (fun v i wm => ∃ j : Nat, j ≤ 8 ∧ i = .int .i64 j ∧ Hid (OwnInts .u8 5 wm w.heap.size v (content S (kpick S kl) k ++ lbytes F j) ∧ Below w.heap.size w wm)) (fun _ i _ => 8 - (intOf i).toNat)
        case atStart => exact ⟨0, by omega, rfl, Lib.hid ⟨by simpa [lbytes] using HR.out.1.below HB.out, HR.out.2.trans (HB.out.mono HR.out.2.size)⟩⟩
        case round =>
          obtain ⟨j, hj, rfl, HM2⟩ := hrel
          by_cases hj8 : j < 8
          · have HX := index8i F j hj8
            have hFj := HAPX.out j
            have hj8i : (j : Int) < 8 := by omega
            generalize hX : F j = X at *
            have HXX := Lib.hid hX
            clear hX
            go_wp2
            go_loopw [5, 11, 12] (fun v y b wn => ∃ bb yy : Nat, bb ≤ 8 ∧ b = .int .i64 bb ∧ y = .int .u64 yy ∧ yy < 18446744073709551616 ∧ Hid (yy = X / 256 ^ bb ∧ OwnInts .u8 5 wn w.heap.size v (content S (kpick S kl) k ++ lbytes F j ++ bytesTo X bb) ∧ Below w.heap.size w wn)) (fun _ _ b _ => 8 - (intOf b).toNat)
            case atStart => exact ⟨0, X, by omega, rfl, rfl, hFj, Lib.hid ⟨by simp, by simpa [bytesTo] using HM2.out.1, HM2.out.2⟩⟩
            case round =>
              obtain ⟨bb, yy, hbb, rfl, rfl, hyy, HM3⟩ := hrel
              by_cases hb8 : bb < 8
              · have hb8i : (bb : Int) < 8 := by omega
                have hl1 := content_len S (kpick S kl) k
                have hl2 := lbytes_len F j
                have hl3 := bytesTo_len X bb
                have HLN : Hid ((content S (kpick S kl) k ++ lbytes F j ++ bytesTo X bb).length ≤ 300000) := by unfold Hid; rw [List.length_append, List.length_append, hl1, hl2, hl3]; omega
                clear hl1 hl2 hl3
                go_wp2_with (at_builtin; refine wpList_app (by simp [Region.wanted, yielded]) (.tmp 47) (.tmp 50) 45 rfl (v := u5) (B := wr.heap.size + 1) (c := 1) (A := some ⟨wr.heap.size, 0, none⟩) (zs := [(yy : Int) % 256]) Try.underlying45 HI.out HZ0.out HZ1.out HZ2.out rfl rfl (HM3.out.2.1.alloc _) rfl (IntsAt.new .u8 wr 5 (0, 0) _) rfl (by have := HLN.out; unfold maxLen; omega) (by have := HLN.out; omega) (Nat.le_trans HM3.out.2.2.size (by simp)) ?_; intro v2 w3 ho2 hg2 ha2; have hb2 := HM3.out.2.2.trans (((Below.refl w.heap.size _).alloc HM3.out.2.2.size _).trans ((HM3.out.2.1.alloc _).grownBelow hg2 (Nat.le_trans HM3.out.2.2.size (by simp)))); have HQ := Lib.hid (And.intro ho2 hb2); clear ho2 hg2 ha2 hb2)
                go_roundw
                case rel =>
                  refine ⟨bb + 1, yy / 256, by omega, by go_num, by go_num, by omega, Lib.hid ⟨?_, ?_, HQ.out.2⟩⟩
                  · rw [HM3.out.1, Nat.pow_succ, Nat.div_div_eq_div_mul]
                  · rw [bytesTo_succ, ← List.append_assoc]
                    have e1 : byteK X bb = (yy : Int) % 256 := by unfold byteK; rw [← HM3.out.1]; omega
                    rw [e1]; exact HQ.out.1
                case measure => simp [intOf]; omega
              · have hbe : bb = 8 := by omega
                subst hbe
                go_wp2
                go_roundw
                case rel =>
                  refine ⟨j + 1, by omega, by go_num, Lib.hid ⟨?_, HM3.out.2.2⟩⟩
                  rw [lbytes_succ, HXX.out, ← bytesTo_all X hFj, ← List.append_assoc]
                  exact HM3.out.2.1
                case measure => simp [intOf]; omega
          · have hje : j = 8 := by omega
            subst hje
            go_wp2
            go_roundw
            case rel => exact ⟨k + 1, by omega, by go_num, by rw [HS1.out]; go_num, Lib.hid ⟨by rw [HCS.out]; exact HM2.out.1, HM2.out.2⟩⟩
            case measure => simp [intOf]; omega
      · have h0i : (0 : Int) < (L : Int) := by omega
        have h1i : ¬ (cnt : Int) < (m : Int) := by omega
        have HS1 := Lib.hid hs1
        rw [hpk] at HPK HCS
        have HW := fun w2 hb => HWD w2 hb 0 HPK.out
        have HAPX := HAP 0
        obtain ⟨F, hF⟩ : ∃ F, applyW (S.pers k) ((S.hist k).take 0) = F := ⟨_, rfl⟩
        rw [hF] at HW HAPX HCS
        clear HWD hpk hs1 HAP hF
        generalize S.pers k = bp at *
        go_wp2_with (go_at_call 57; refine ((HW _ ((Below.refl _ _).alloc (Nat.le_refl _) _)).out).mono ?_; rintro e w2 ⟨he, hb⟩; simp only [words8, wordG] at he; subst he; have HB := Lib.hid (((Below.refl wr.heap.size wr).alloc (Nat.le_refl _) _).trans (hb.mono (by simp))); clear hb)
        go_loopw [5, 40] (fun v i wm => ∃ j : Nat, j ≤ 8 ∧ i = .int .i64 j ∧ Hid (OwnInts .u8 5 wm w.heap.size v (content S (kpick S kl) k ++ lbytes F j) ∧ Below w.heap.size w wm)) (fun _ i _ => 8 - (intOf i).toNat)
        case atStart => exact ⟨0, by omega, rfl, Lib.hid ⟨by simpa [lbytes] using HR.out.1.below HB.out, HR.out.2.trans (HB.out.mono HR.out.2.size)⟩⟩
        case round =>
          obtain ⟨j, hj, rfl, HM2⟩ := hrel
          by_cases hj8 : j < 8
          · have HX := index8i F j hj8
            have hFj := HAPX.out j
            have hj8i : (j : Int) < 8 := by omega
            generalize hX : F j = X at *
            have HXX := Lib.hid hX
            clear hX
            go_wp2
            go_loopw [5, 11, 12] (fun v y b wn => ∃ bb yy : Nat, bb ≤ 8 ∧ b = .int .i64 bb ∧ y = .int .u64 yy ∧ yy < 18446744073709551616 ∧ Hid (yy = X / 256 ^ bb ∧ OwnInts .u8 5 wn w.heap.size v (content S (kpick S kl) k ++ lbytes F j ++ bytesTo X bb) ∧ Below w.heap.size w wn)) (fun _ _ b _ => 8 - (intOf b).toNat)
            case atStart => exact ⟨0, X, by omega, rfl, rfl, hFj, Lib.hid ⟨by simp, by simpa [bytesTo] using HM2.out.1, HM2.out.2⟩⟩
            case round =>
              obtain ⟨bb, yy, hbb, rfl, rfl, hyy, HM3⟩ := hrel
              by_cases hb8 : bb < 8
              · have hb8i : (bb : Int) < 8 := by omega
                have hl1 := content_len S (kpick S kl) k
                have hl2 := lbytes_len F j
                have hl3 := bytesTo_len X bb
                have HLN : Hid ((content S (kpick S kl) k ++ lbytes F j ++ bytesTo X bb).length ≤ 300000) := by unfold Hid; rw [List.length_append, List.length_append, hl1, hl2, hl3]; omega
                clear hl1 hl2 hl3
                go_wp2_with (at_builtin; refine wpList_app (by simp [Region.wanted, yielded]) (.tmp 47) (.tmp 50) 45 rfl (v := u5) (B := wr.heap.size + 1) (c := 1) (A := some ⟨wr.heap.size, 0, none⟩) (zs := [(yy : Int) % 256]) Try.underlying45 HI.out HZ0.out HZ1.out HZ2.out rfl rfl (HM3.out.2.1.alloc _) rfl (IntsAt.new .u8 wr 5 (0, 0) _) rfl (by have := HLN.out; unfold maxLen; omega) (by have := HLN.out; omega) (Nat.le_trans HM3.out.2.2.size (by simp)) ?_; intro v2 w3 ho2 hg2 ha2; have hb2 := HM3.out.2.2.trans (((Below.refl w.heap.size _).alloc HM3.out.2.2.size _).trans ((HM3.out.2.1.alloc _).grownBelow hg2 (Nat.le_trans HM3.out.2.2.size (by simp)))); have HQ := Lib.hid (And.intro ho2 hb2); clear ho2 hg2 ha2 hb2)
                go_roundw
                case rel =>
                  refine ⟨bb + 1, yy / 256, by omega, by go_num, by go_num, by omega, Lib.hid ⟨?_, ?_, HQ.out.2⟩⟩
                  · rw [HM3.out.1, Nat.pow_succ, Nat.div_div_eq_div_mul]
                  · rw [bytesTo_succ, ← List.append_assoc]
                    have e1 : byteK X bb = (yy : Int) % 256 := by unfold byteK; rw [← HM3.out.1]; omega
                    rw [e1]; exact HQ.out.1
                case measure => simp [intOf]; omega
              · have hbe : bb = 8 := by omega
                subst hbe
                go_wp2
                go_roundw
                case rel =>
                  refine ⟨j + 1, by omega, by go_num, Lib.hid ⟨?_, HM3.out.2.2⟩⟩
                  rw [lbytes_succ, HXX.out, ← bytesTo_all X hFj, ← List.append_assoc]
                  exact HM3.out.2.1
                case measure => simp [intOf]; omega
          · have hje : j = 8 := by omega
            subst hje
            go_wp2
            go_roundw
            case rel => exact ⟨k + 1, by omega, by go_num, by rw [HS1.out]; go_num, Lib.hid ⟨by rw [HCS.out]; exact HM2.out.1, HM2.out.2⟩⟩
            case measure => simp [intOf]; omega
      · have h0i : ¬ (0 : Int) < (L : Int) := by omega
        have hL0 := Lib.hid h0
        clear h0
        have HS1 := Lib.hid hs1
        rw [hpk] at HPK HCS
        have HW := fun w2 hb => HWD w2 hb 0 HPK.out
        have HAPX := HAP 0
        obtain ⟨F, hF⟩ : ∃ F, applyW (S.pers k) ((S.hist k).take 0) = F := ⟨_, rfl⟩
        rw [hF] at HW HAPX HCS
        clear HWD hpk hs1 HAP hF
        generalize S.pers k = bp at *
        go_wp2_with (go_at_call 57; refine ((HW _ ((Below.refl _ _).alloc (Nat.le_refl _) _)).out).mono ?_; rintro e w2 ⟨he, hb⟩; simp only [words8, wordG] at he; subst he; have HB := Lib.hid (((Below.refl wr.heap.size wr).alloc (Nat.le_refl _) _).trans (hb.mono (by simp))); clear hb)
        go_loopw [5, 40] (fun v i wm => ∃ j : Nat, j ≤ 8 ∧ i = .int .i64 j ∧ Hid (OwnInts .u8 5 wm w.heap.size v (content S (kpick S kl) k ++ lbytes F j) ∧ Below w.heap.size w wm)) (fun _ i _ => 8 - (intOf i).toNat)
        case atStart => exact ⟨0, by omega, rfl, Lib.hid ⟨by simpa [lbytes] using HR.out.1.below HB.out, HR.out.2.trans (HB.out.mono HR.out.2.size)⟩⟩
        case round =>
          obtain ⟨j, hj, rfl, HM2⟩ := hrel
          by_cases hj8 : j < 8
          · have HX := index8i F j hj8
            have hFj := HAPX.out j
            have hj8i : (j : Int) < 8 := by omega
            generalize hX : F j = X at *
            have HXX := Lib.hid hX
            clear hX
            go_wp2
            go_loopw [5, 11, 12] (fun v y b wn => ∃ bb yy : Nat, bb ≤ 8 ∧ b = .int .i64 bb ∧ y = .int .u64 yy ∧ yy < 18446744073709551616 ∧ Hid (yy = X / 256 ^ bb ∧ OwnInts .u8 5 wn w.heap.size v (content S (kpick S kl) k ++ lbytes F j ++ bytesTo X bb) ∧ Below w.heap.size w wn)) (fun _ _ b _ => 8 - (intOf b).toNat)
            case atStart => exact ⟨0, X, by omega, rfl, rfl, hFj, Lib.hid ⟨by simp, by simpa [bytesTo] using HM2.out.1, HM2.out.2⟩⟩
            case round =>
              obtain ⟨bb, yy, hbb, rfl, rfl, hyy, HM3⟩ := hrel
              by_cases hb8 : bb < 8
              · have hb8i : (bb : Int) < 8 := by omega
                have hl1 := content_len S (kpick S kl) k
                have hl2 := lbytes_len F j
                have hl3 := bytesTo_len X bb
                have HLN : Hid ((content S (kpick S kl) k ++ lbytes F j ++ bytesTo X bb).length ≤ 300000) := by unfold Hid; rw [List.length_append, List.length_append, hl1, hl2, hl3]; omega
                clear hl1 hl2 hl3
                go_wp2_with (at_builtin; refine wpList_app (by simp [Region.wanted, yielded]) (.tmp 47) (.tmp 50) 45 rfl (v := u5) (B := wr.heap.size + 1) (c := 1) (A := some ⟨wr.heap.size, 0, none⟩) (zs := [(yy : Int) % 256]) Try.underlying45 HI.out HZ0.out HZ1.out HZ2.out rfl rfl (HM3.out.2.1.alloc _) rfl (IntsAt.new .u8 wr 5 (0, 0) _) rfl (by have := HLN.out; unfold maxLen; omega) (by have := HLN.out; omega) (Nat.le_trans HM3.out.2.2.size (by simp)) ?_; intro v2 w3 ho2 hg2 ha2; have hb2 := HM3.out.2.2.trans (((Below.refl w.heap.size _).alloc HM3.out.2.2.size _).trans ((HM3.out.2.1.alloc _).grownBelow hg2 (Nat.le_trans HM3.out.2.2.size (by simp)))); have HQ := Lib.hid (And.intro ho2 hb2); clear ho2 hg2 ha2 hb2)
                go_roundw
                case rel =>
                  refine ⟨bb + 1, yy / 256, by omega, by go_num, by go_num, by omega, Lib.hid ⟨?_, ?_, HQ.out.2⟩⟩
                  · rw [HM3.out.1, Nat.pow_succ, Nat.div_div_eq_div_mul]
                  · rw [bytesTo_succ, ← List.append_assoc]
                    have e1 : byteK X bb = (yy : Int) % 256 := by unfold byteK; rw [← HM3.out.1]; omega
                    rw [e1]; exact HQ.out.1
                case measure => simp [intOf]; omega
              · have hbe : bb = 8 := by omega
                subst hbe
                go_wp2
                go_roundw
                case rel =>
                  refine ⟨j + 1, by omega, by go_num, Lib.hid ⟨?_, HM3.out.2.2⟩⟩
                  rw [lbytes_succ, HXX.out, ← bytesTo_all X hFj, ← List.append_assoc]
                  exact HM3.out.2.1
                case measure => simp [intOf]; omega
          · have hje : j = 8 := by omega
            subst hje
            go_wp2
            go_roundw
            case rel => exact ⟨k + 1, by omega, by go_num, by rw [HS1.out], Lib.hid ⟨by rw [HCS.out]; exact HM2.out.1, HM2.out.2⟩⟩
            case measure => simp [intOf]; omega
    · have hk : k = n := by omega
      subst hk
      go_wp2
      go_ret
      exact ⟨_, rfl, HR⟩
end Go.Proofs.Ytmipodnfkilcfaa.Dev
