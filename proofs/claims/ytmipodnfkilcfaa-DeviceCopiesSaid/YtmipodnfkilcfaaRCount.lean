/-
  THE REFERENCE's DEVICE: Is, counted.
-/
import Derived.Test.YtmipodnfkilcfaaRState
set_option linter.unusedVariables false
set_option linter.unusedSimpArgs false
namespace Go.Proofs.Ytmipodnfkilcfaa.Dev
open Go.ChangeShapes Go.WideShapes Go.ChangeAt Go.RowKit Go.Proofs.Ytmipodnfkilcfaa.Mem Go.Proofs.Ytmipodnfkilcfaa.Args Go.Proofs.Ytmipodnfkilcfaa.Own
theorem ris_any (w : World) (A : RAdr) (S : St) (o : Nat) (h : RB w A S) (hn : S.n ≤ 4096) (ho : o < 18446744073709551616) :
    Calls Try.prog 60 #[.pointer (some ⟨A.d, 0, none⟩), .int .u64 (o : Int)] w fun r w' => r = .returned (.bool (S.isW o)) ∧ w' = w := by
  have c0 := h.c0
  have HE : Hid (S.isW o = (decide (o % 8 = 0) && decide (o / 64 < S.n))) := by
    unfold Hid St.isW
    by_cases h1 : o < S.n * 64
    · rw [decide_eq_true h1, decide_eq_true (show o / 64 < S.n by omega)]
    · rw [decide_eq_false h1, decide_eq_false (show ¬ o / 64 < S.n by omega)]
  generalize S.n = n at *
  clear h
  by_cases h8 : o % 8 = 0
  · have hb : (((o : Int) % 8) == 0) = true := by simp; omega
    have hb2 : (((o : Int).tmod 8) == 0) = true := by rw [Int.tmod_eq_emod_of_nonneg (by omega)]; exact hb
    obtain ⟨k, hk⟩ : ∃ k, o / 64 = k := ⟨_, rfl⟩
    have hd : (o : Int) / 64 = (k : Int) := by omega
    rw [hk] at HE
    clear hk
    go_enter Try.func60, Try.ntmps60
    go_wp2
    go_ret
    exact ⟨ret_bool (by rw [HE.out, decide_eq_true h8, Bool.true_and]), rfl⟩
  · have hb : (((o : Int) % 8) == 0) = false := by simp; omega
    have hb2 : (((o : Int).tmod 8) == 0) = false := by rw [Int.tmod_eq_emod_of_nonneg (by omega)]; exact hb
    go_enter Try.func60, Try.ntmps60
    go_wp2
    go_ret
    exact ⟨ret_bool (by rw [HE.out, decide_eq_false h8, Bool.false_and]), rfl⟩
theorem RB.offd {w : World} {A : RAdr} {S : St} (h : RB w A S) : RB (w.setCell ⟨A.d, 18, none⟩ (.bool true)) A { S with off := true } :=
  (Blk.set h 18 (.bool true)).ext fun o ho => by
    by_cases h1 : o = 18
    · subst h1; rw [upd_same]; rfl
    · rw [upd_other _ _ h1]; exact refG_far _ _ _ _ rfl rfl (fun _ => trivial) (fun _ => rfl) (fun e => absurd e h1) (fun _ => rfl)
theorem RB.ticked {w : World} {A : RAdr} {S : St} (h : RB w A S) (h0 : S.left = none) : RB (w.setCell ⟨A.d, 19, none⟩ (.int .u64 ((S.ex + 1 : Nat) : Int))) A S.tickS :=
  (Blk.set h 19 _).ext fun o ho => by
    by_cases h1 : o = 19
    · subst h1; rw [upd_same]; rfl
    · rw [upd_other _ _ h1]; exact refG_far _ _ _ _ rfl rfl (fun _ => trivial) (fun _ => by simp [St.tickS, h0]) (fun _ => rfl) (fun e => by omega)
theorem RB.ticked' {w : World} {A : RAdr} {S : St} {m : Nat} (h : RB w A S) (h0 : S.left = some (m + 1)) : RB ((w.setCell ⟨A.d, 17, none⟩ (.int .i64 (m : Int))).setCell ⟨A.d, 19, none⟩ (.int .u64 ((S.ex + 1 : Nat) : Int))) A S.tickS := by
  refine (Blk.set (Blk.set h 17 (.int .i64 (m : Int))) 19 _).ext fun o ho => ?_
  by_cases h1 : o = 19
  · subst h1; rw [upd_same]; rfl
  · rw [upd_other _ _ h1]
    by_cases h2 : o = 17
    · subst h2; rw [upd_same]; unfold refG St.tickS; simp [h0, leftI]
    · rw [upd_other _ _ h2]
      exact refG_far _ _ _ _ rfl rfl (fun _ => trivial) (fun e => absurd e h2) (fun _ => rfl) (fun e => by omega)
theorem rcounted_any (w : World) (A : RAdr) (S : St) (t : Nat) (v : Bool) (h : RB w A S) (ht : t < 8) (hx : S.ex ≤ 4294967295) (hm : ∀ m, S.left = some m → m ≤ 9223372036854775807) :
    Calls Try.prog 62 #[.pointer (some ⟨A.d, 0, none⟩), .int .i64 (t : Int), .bool v] w fun r w' => r = .returned (.bool (S.cnt v)) ∧ Hid (RB w' A (S.cntS t v) ∧ Only (fun b => b = A.d) w w') := by
  have HA := Lib.hid (rmay_any w A S t v h ht)
  by_cases h1 : S.may v = true
  · have h2 : S.off = false ∧ v = true := by simpa [St.may] using h1
    obtain ⟨hoff, rfl⟩ := h2
    have HT := Lib.hid (show S.mayS t true = S by simp [St.mayS, hoff])
    rw [h1] at HA
    have HE : Hid (S.cnt true = !S.dead ∧ S.cntS t true = if S.dead then S.tk.setErr t 3 else S.tk) := by simp [Hid, St.cnt, St.cntS, hoff]
    clear h h1 hoff
    rcases hL : S.left with _ | m
    · have HTK := Lib.hid (show S.dead = false ∧ S.tk = S.tickS by simp [St.tk, St.dead, hL])
      have HLE := Lib.hid hL
      clear hm hL
      go_enter Try.func62, Try.ntmps62
      go_wp2_with (go_at_call 59; refine HA.out.mono ?_; rintro e w1 ⟨rfl, HQ⟩; rw [HT.out] at HQ; have cl := HQ.out.1.cLeft; have ce := HQ.out.1.cEx; have zl := HQ.out.1.frozen 17; have ze := HQ.out.1.frozen 19; rw [HLE.out] at cl; have HTI := Lib.hid (HQ.out.1.ticked HLE.out); simp only [leftI] at cl; generalize S.ex = X at *)
      go_ret
      exact ⟨ret_bool (by rw [HE.out.1, HTK.out.1]; rfl), Lib.hid ⟨by rw [HE.out.2, HTK.out.1, HTK.out.2]; exact HTI.out, HQ.out.2.set _ _ (.inl rfl)⟩⟩
    · rcases m with _ | m
      · have HTK := Lib.hid (show S.dead = true ∧ S.tk = { S with off := true } by simp [St.tk, St.dead, hL])
        have HLE := Lib.hid hL
        clear hm hL
        go_enter Try.func62, Try.ntmps62
        go_wp2_with (first
          | (go_at_call 59; refine HA.out.mono ?_; rintro e w1 ⟨rfl, HQ⟩; rw [HT.out] at HQ; have cl : w1.cell? ⟨A.d, 17, none⟩ = some (.int .i64 0) := (by have := HQ.out.1.cLeft; rw [HLE.out] at this; exact this); have co := HQ.out.1.cOff; have zo := HQ.out.1.frozen 18; have HTI := Lib.hid HQ.out.1.offd; generalize S.off = bo at co)
          | (go_at_call 70; refine (rfail_any _ A { S with off := true } t 3 HTI.out ht (by omega)).mono ?_; rintro e w3 ⟨rfl, HZ⟩))
        go_ret
        exact ⟨ret_bool (by rw [HE.out.1, HTK.out.1]; rfl), Lib.hid ⟨by rw [HE.out.2, HTK.out.1, HTK.out.2]; exact HZ.out.1, (HQ.out.2.set _ _ (.inl rfl)).trans HZ.out.2⟩⟩
      · have HTK := Lib.hid (show S.dead = false ∧ S.tk = S.tickS by simp [St.tk, St.dead, hL])
        have HLE := Lib.hid hL
        have hmm := hm _ hL
        have hb : (((m + 1 : Nat) : Int) == 0) = false := by simp; omega
        have hg0 : (0 : Int) < ((m + 1 : Nat) : Int) := by omega
        obtain ⟨m1, hm1⟩ : ∃ m1, m + 1 = m1 := ⟨_, rfl⟩
        have hms : (m1 : Int) - 1 = (m : Int) := by omega
        have HL1 := Lib.hid (show leftI (some (m + 1)) = (m1 : Int) by rw [hm1]; rfl)
        rw [hm1] at hb hmm hg0
        clear hm hL hm1
        go_enter Try.func62, Try.ntmps62
        go_wp2_with (go_at_call 59; refine HA.out.mono ?_; rintro e w1 ⟨rfl, HQ⟩; rw [HT.out] at HQ; have cl := HQ.out.1.cLeft; have ce := HQ.out.1.cEx; have zl := HQ.out.1.frozen 17; have ze := HQ.out.1.frozen 19; rw [HLE.out, HL1.out] at cl; have HTI := Lib.hid (HQ.out.1.ticked' HLE.out); generalize S.ex = X at *)
        go_ret
        exact ⟨ret_bool (by rw [HE.out.1, HTK.out.1]; rfl), Lib.hid ⟨by rw [HE.out.2, HTK.out.1, HTK.out.2]; exact HTI.out, ((HQ.out.2.set _ _ (.inl rfl)).set _ _ (.inl rfl))⟩⟩
  · have h1' : S.may v = false := by simpa using h1
    have HE : Hid (S.cnt v = false ∧ S.cntS t v = S.mayS t v) := by
      unfold Hid St.cnt St.cntS St.mayS
      unfold St.may at h1'
      cases hoff : S.off <;> cases v <;> simp_all
    rw [h1'] at HA
    clear h h1 h1' hx hm
    go_enter Try.func62, Try.ntmps62
    go_wp2_with (go_at_call 59; refine HA.out.mono ?_; rintro e w1 ⟨rfl, HQ⟩)
    go_ret
    exact ⟨ret_bool HE.out.1.symm, Lib.hid (by rw [HE.out.2]; exact HQ.out)⟩
end Go.Proofs.Ytmipodnfkilcfaa.Dev
