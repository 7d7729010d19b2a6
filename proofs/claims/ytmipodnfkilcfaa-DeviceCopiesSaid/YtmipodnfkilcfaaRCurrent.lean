/-
  THE REFERENCE: Current.
-/
import Derived.Test.YtmipodnfkilcfaaRDirty
set_option linter.unusedVariables false
set_option linter.unusedSimpArgs false
namespace Go.Proofs.Ytmipodnfkilcfaa.Dev
open Go.ChangeShapes Go.WideShapes Go.ChangeAt Go.RowKit Go.Proofs.Ytmipodnfkilcfaa.Mem Go.Proofs.Ytmipodnfkilcfaa.Args Go.Proofs.Ytmipodnfkilcfaa.Own
theorem dirtyTo_at (S : St) (i : Nat) (h0 : 0 < (S.hist i).length) : ∀ n, i < n → (dirtyTo S n)[(dirtyTo S i).length]? = some i
  | 0, h => absurd h (by omega)
  | n + 1, h => by
    rw [dirtyTo_succ]
    by_cases hin : i < n
    · have := dirtyTo_at S i h0 n hin
      split
      · rw [List.getElem?_append_left (List.getElem?_eq_some_iff.1 this).1]; exact this
      · exact this
    · obtain rfl : i = n := by omega
      rw [if_pos h0]
      simp
theorem dirtyTo_lt (S : St) (n : Nat) : ∀ i ∈ dirtyTo S n, i < n := fun i hi => by
  unfold dirtyTo at hi
  exact List.mem_range.1 (List.mem_filter.1 hi).1
def lensOf (S : St) (l : List Nat) : List Nat := l.map fun i => (S.hist i).length
theorem hist_out {S : St} {M : Nat} (hS : S.Ok M) {i : Nat} (hi : S.n ≤ i) : (S.hist i).length = 0 := by
  cases h : S.hist i with
  | nil => rfl
  | cons p l =>
    have := hS.hist i p (by rw [h]; exact List.mem_cons_self)
    omega
theorem kpick_whole {S : St} {M : Nat} (hS : S.Ok M) (i : Nat) : kpick S (lensOf S (dirtyTo S S.n)) i = whole S i := by
  unfold kpick whole
  by_cases h0 : 0 < (S.hist i).length
  · rw [if_pos h0]
    have hi : i < S.n := by
      by_cases hi : i < S.n
      · exact hi
      · have := hist_out hS (i := i) (by omega); omega
    simp [lensOf, List.getD, dirtyTo_at S i h0 S.n hi]
  · rw [if_neg h0]; omega
theorem OwnInts.only {F : Nat → Prop} {k : IntKind} {e : TypeId} {w w' : World} {base : Nat} {v : Value} {zs : List Int} (h : OwnInts k e w base v zs) (ho : Only F w w') (hn : ∀ g, v.ownBlock = some g → ¬ F g) : OwnInts k e w' base v zs := by
  refine ⟨h.1, ?_⟩
  rcases h.2 with hn' | ⟨g, cap, cur, rfl, hbg, hgg, rest⟩
  · exact .inl hn'
  · refine .inr ⟨g, cap, cur, rfl, hbg, ?_, rest⟩
    rw [ho.block g (Array.getElem?_eq_some_iff.1 hgg).1 (hn g rfl)]; exact hgg
theorem own_mono {k : IntKind} {e : TypeId} {w : World} {base b : Nat} {v : Value} {zs : List Int} (h : OwnInts k e w base v zs) (hb : b ≤ base) : OwnInts k e w b v zs := by
  refine ⟨h.1, ?_⟩
  rcases h.2 with hn | ⟨g, cap, cur, rfl, hbg, rest⟩
  · exact .inl hn
  · exact .inr ⟨g, cap, cur, rfl, Nat.le_trans hb hbg, rest⟩
/-- The k-th integer of an owned slice, at its cell. -/
theorem OwnInts.at {k : IntKind} {e : TypeId} {w : World} {base m c : Nat} {D : Option Addr} {zs : List Int} (h : OwnInts k e w base (.slice D m c) zs) (j : Nat) (hj : j < zs.length) : ∃ ad, D = some ad ∧ w.cell? (ad.add j) = some (.int k zs[j]) := by
  obtain ⟨A, c', e1, _, _, _, hi⟩ := h.form
  simp only [Value.slice.injEq] at e1
  obtain ⟨rfl, _, _⟩ := e1
  obtain ⟨ad, h1, h2, h3⟩ := hi j hj
  rw [getD_at hj] at h3
  exact ⟨ad, h1, h3⟩
set_option maxRecDepth 100000 in
set_option maxHeartbeats 1000000 in
theorem rcurrent_any (w : World) (base M : Nat) (A : RAdr) (S : St) (h : IsRef w base A S) (hS : S.Ok M) (hM : M ≤ 1000000) :
    Calls Try.prog 24 #[.pointer (some ⟨A.d, 0, none⟩)] w fun e w' => ∃ v', e = .returned v' ∧ Hid (OwnInts .u8 5 w' w.heap.size v' (content S (whole S) S.n) ∧ Below w.heap.size w w') := by
  obtain ⟨i0, hi, hz0, hz1, hz2⟩ := info_parts infoInt
  have HI := Lib.hid hi
  have HZ0 := Lib.hid hz0
  have HZ1 := Lib.hid hz1
  have HZ2 := Lib.hid hz2
  have HD := Lib.hid h
  have HSS := Lib.hid hS
  have HKW := Lib.hid (funext (kpick_whole hS) : kpick S (lensOf S (dirtyTo S S.n)) = whole S)
  obtain ⟨dl, hdl⟩ : ∃ dl, dirtyTo S S.n = dl := ⟨_, rfl⟩
  obtain ⟨m, hm⟩ : ∃ m, dl.length = m := ⟨_, rfl⟩
  have hmn : m ≤ 4096 := by have := dirtyTo_len S S.n; have := hS.n1; rw [← hm, ← hdl]; omega
  have HDM := Lib.hid hm
  have HLT : Hid (∀ i ∈ dl, i < S.n) := Lib.hid (by rw [← hdl]; exact dirtyTo_lt S S.n)
  rw [hdl] at HKW
  have HDR : Hid (∀ w1, Below w.heap.size w w1 → Calls Try.prog 28 #[.pointer (some ⟨A.d, 0, none⟩)] w1 fun e w' => ∃ D c, e = .returned (.slice D m c) ∧ Hid (OwnInts .i64 3 w' w1.heap.size (.slice D m c) (ints dl) ∧ Below w1.heap.size w1 w')) := Lib.hid fun w1 hb => by
    refine (rdirty_any w1 base M A S (h.below hb (Nat.le_refl _)) hS).mono ?_
    rintro e w' ⟨v, rfl, H⟩
    obtain ⟨D, c, e1, _⟩ := H.out.1.form
    rw [ints_len, hdl, hm] at e1
    subst e1
    exact ⟨D, c, rfl, by rw [← hdl]; exact H⟩
  obtain ⟨n, hn⟩ : ∃ n, S.n = n := ⟨_, rfl⟩
  have HN := Lib.hid hn
  clear hi hz0 hz1 hz2 h hS hn hdl hm
  go_enter Try.func24, Try.ntmps24
  go_wp2_with (go_at_call 28; refine (HDR.out _ ((Below.refl _ _).alloc (Nat.le_refl _) _)).mono ?_; rintro e w1 ⟨D, c, rfl, H1⟩)
  have HS1 : Hid (w.heap.size + 1 ≤ w1.heap.size) := Lib.hid (by have := H1.out.2.size; simpa using this)
  go_loopw [3, 10] (fun v i wr => ∃ k : Nat, k ≤ m ∧ i = .int .i64 k ∧ Hid (OwnInts .i64 3 wr w.heap.size v (ints (lensOf S (dl.take k))) ∧ Below w.heap.size w wr ∧ Only (fun b => b = w.heap.size ∨ w1.heap.size ≤ b) w1 wr ∧ ∀ b, v.ownBlock = some b → b = w.heap.size ∨ w1.heap.size ≤ b)) (fun _ i _ => m - (intOf i).toNat)
  case atStart =>
    refine ⟨0, by omega, rfl, Lib.hid ⟨?_, ?_, Only.refl _ _, fun b hb => .inl (Option.some.inj hb).symm⟩⟩
    · have := (OwnInts.empty .i64 3 w (Nat.le_refl _)).below H1.out.2
      simpa [lensOf, ints] using this
    · exact ((Below.refl _ _).alloc (Nat.le_refl _) _).trans (H1.out.2.mono (by simp))
  case round =>
    obtain ⟨k, hk, rfl, HR⟩ := hrel
    by_cases hlt : k < m
    · have hkl : (k : Int) < (m : Int) := by omega
      have hkd : k < dl.length := by rw [HDM.out]; exact hlt
      have I1 := HD.out.below HR.out.2.1 (Nat.le_refl _)
      have hsz : (w.alloc (.cells #[] 3)).heap.size = w.heap.size + 1 := by simp
      have hoff : ∀ g, (Value.slice D m c).ownBlock = some g → ¬ (g = w.heap.size ∨ w1.heap.size ≤ g) := fun g hg f => by
        have h1 := H1.out.1.lt g hg
        rw [hsz] at h1
        rcases f with f | f <;> omega
      have OD := OwnInts.only H1.out.1 HR.out.2.2.1 hoff
      obtain ⟨ad, rfl, hcell⟩ := OwnInts.at OD k (by rw [ints_len]; exact hkd)
      obtain ⟨x, hx⟩ : ∃ x, dl[k] = x := ⟨_, rfl⟩
      have hcell2 : wr.cell? (ad.add k) = some (.int .i64 (x : Int)) := by rw [hcell, ← hx]; simp [ints]
      have hxn : x < S.n := by rw [← hx]; exact HLT.out _ (List.getElem_mem hkd)
      obtain ⟨C, cc, _, q1, q2, _, hh, _, _⟩ := I1.line hxn
      have hxl : x < n := by rw [← HN.out]; exact hxn
      have hxi : (x : Int) < (n : Int) := by omega
      have c0 := RB.c0 I1.dev
      rw [HN.out] at c0
      have hlb := I1.lines.lt
      have hsum := HSS.out.sum x
      have HTK : Hid (lensOf S (dl.take (k + 1)) = lensOf S (dl.take k) ++ [(S.hist x).length]) := Lib.hid (by rw [List.take_succ_eq_append_getElem hkd, hx]; simp [lensOf])
      generalize hL : (S.hist x).length = L at *
      have hLM : L ≤ 1000000 := by omega
      have hlen : (ints (lensOf S (dl.take k))).length ≤ 4096 := by rw [ints_len]; simp [lensOf]; omega
      have HLEN := Lib.hid hlen
      clear I1 OD hcell hx hkd hL hlen hsum hsz hoff
      go_wp2_with (at_builtin; go_must (refine wpList_app (by simp [Region.wanted, yielded]) (.tmp 14) (.tmp 24) 79 rfl (v := u3) (B := wr.heap.size + 1) (c := 1) (A := some ⟨wr.heap.size, 0, none⟩) (zs := [(L : Int)]) Try.underlying79 HI.out HZ0.out HZ1.out HZ2.out rfl rfl (HR.out.1.alloc _) rfl (IntsAt.new .i64 wr 3 (0, 0) _) rfl (by have := HLEN.out; unfold maxLen; omega) (by have := HLEN.out; omega) (Nat.le_trans HR.out.2.1.size (by simp)) ?_); intro v2 w2 ho2 hg2 ha2; have HQ := Lib.hid (And.intro ho2 (And.intro hg2 ha2)); clear ho2 hg2 ha2)
      go_roundw
      case rel =>
        refine ⟨k + 1, by omega, by go_num, Lib.hid ⟨by rw [HTK.out, ints_snoc]; exact HQ.out.1, ?_, ?_, ?_⟩⟩
        · exact HR.out.2.1.trans (((Below.refl w.heap.size wr).alloc HR.out.2.1.size _).trans ((HR.out.1.alloc _).grownBelow HQ.out.2.1 (Nat.le_trans HR.out.2.1.size (by simp))))
        · refine (HR.out.2.2.1.alloc _).trans (Only.ofGrown HQ.out.2.1 fun b hb => .inl (HR.out.2.2.2 b hb))
        · intro b hb
          rcases HQ.out.2.2 with h1 | h1
          · rw [h1] at hb; exact HR.out.2.2.2 b hb
          · rw [h1] at hb
            have h2 := HR.out.2.2.1.size
            have h3 : (wr.alloc (.cells #[.int .i64 (L : Int)] 3)).heap.size = wr.heap.size + 1 := by simp
            have := Option.some.inj hb
            omega
      case measure => simp [intOf]; omega
    · have hkn : k = m := by omega
      have hkl : ¬ (k : Int) < (m : Int) := by omega
      subst hkn
      have htk : dl.take k = dl := List.take_of_length_le (by rw [HDM.out]; omega)
      have ho := HR.out.1
      rw [htk] at ho
      have hll : (lensOf S dl).length = k := by simp [lensOf, HDM.out]
      obtain ⟨K, cc, e1, _, _, _, hi1⟩ := ho.form
      rw [ints_len, hll] at e1
      subst e1
      have HC := Lib.hid (rcontent_any wr base M A S K k cc wr.heap.size (lensOf S dl) (HD.out.below HR.out.2.1 (Nat.le_refl _)) HSS.out hM hll hmn hi1 (Nat.le_refl _) (fun i => by rw [HKW.out]; exact Nat.le_refl _))
      rw [HKW.out, HN.out] at HC
      clear ho hi1 htk hll
      go_wp2_with (go_at_call 26; refine HC.out.mono ?_; rintro e w2 ⟨v2, rfl, H2⟩)
      go_ret
      exact ⟨v2, rfl, Lib.hid ⟨by rw [HN.out]; exact own_mono H2.out.1 HR.out.2.1.size, HR.out.2.1.trans (H2.out.2.mono HR.out.2.1.size)⟩⟩
end Go.Proofs.Ytmipodnfkilcfaa.Dev
