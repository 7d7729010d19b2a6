/-
  THE REFERENCE: Dirty.
-/
import Derived.Test.YtmipodnfkilcfaaRContent
set_option linter.unusedVariables false
set_option linter.unusedSimpArgs false
namespace Go.Proofs.Ytmipodnfkilcfaa.Dev
open Go.ChangeShapes Go.WideShapes Go.ChangeAt Go.RowKit Go.Proofs.Ytmipodnfkilcfaa.Mem Go.Proofs.Ytmipodnfkilcfaa.Args Go.Proofs.Ytmipodnfkilcfaa.Own
theorem ints_new2 (k : IntKind) (w : World) (o : Obj) (t : TypeId) (zs : List Int) : IntsAt k ((w.alloc o).alloc (.cells (zs.map (Value.int k)).toArray t)) (w.heap.size + 1 + 1) (some ⟨w.heap.size + 1, 0, none⟩) zs := by
  have h := IntsAt.new k (w.alloc o) t (0, 0) zs
  have e : (w.alloc o).heap.size = w.heap.size + 1 := by simp
  rw [e] at h
  exact h
set_option maxRecDepth 100000 in
set_option maxHeartbeats 1000000 in
theorem rdirty_any (w : World) (base M : Nat) (A : RAdr) (S : St) (h : IsRef w base A S) (hS : S.Ok M) :
    Calls Try.prog 28 #[.pointer (some ⟨A.d, 0, none⟩)] w fun e w' => ∃ v', e = .returned v' ∧ Hid (OwnInts .i64 3 w' w.heap.size v' (ints (dirtyTo S S.n)) ∧ Below w.heap.size w w') := by
  obtain ⟨i0, hi, hz0, hz1, hz2⟩ := info_parts infoInt
  have HI := Lib.hid hi
  have HZ0 := Lib.hid hz0
  have HZ1 := Lib.hid hz1
  have HZ2 := Lib.hid hz2
  have HD := Lib.hid h
  have c00 := RB.c0 h.dev
  obtain ⟨n, hn⟩ : ∃ n, S.n = n := ⟨_, rfl⟩
  have hn1 := hS.n1
  rw [hn] at hn1 c00 ⊢
  have HN := Lib.hid hn
  clear hi hz0 hz1 hz2 h hS hn
  go_enter Try.func28, Try.ntmps28
  have hlt0 := HD.out.dev.lt
  go_wp2
  clear c00
  go_loopw [3, 12] (fun v i wr => ∃ k : Nat, k ≤ n ∧ i = .int .i64 k ∧ Hid (OwnInts .i64 3 wr w.heap.size v (ints (dirtyTo S k)) ∧ Below w.heap.size w wr)) (fun _ i _ => n - (intOf i).toNat)
  case atStart => exact ⟨0, by omega, rfl, Lib.hid ⟨OwnInts.empty _ _ _ (Nat.le_refl _), (Below.refl _ _).alloc (Nat.le_refl _) _⟩⟩
  case round =>
    obtain ⟨k, hk, rfl, HR⟩ := hrel
    by_cases hlt : k < n
    · have I1 := HD.out.below HR.out.2 (Nat.le_refl _)
      have hkS : k < S.n := by rw [HN.out]; exact hlt
      obtain ⟨C, c, _, q1, q2, hp, hh, hg, hrow⟩ := I1.line hkS
      have hlb := I1.lines.lt
      have hkl : (k : Int) < (n : Int) := by omega
      have hdl := Lib.hid (dirtyTo_len S k)
      have HSU := Lib.hid (dirtyTo_succ S k)
      have d0 := hp 0 (by decide)
      have d1 := hp 1 (by decide)
      have d2 := hp 2 (by decide)
      have d3 := hp 3 (by decide)
      have d4 := hp 4 (by decide)
      have d5 := hp 5 (by decide)
      have d6 := hp 6 (by decide)
      have d7 := hp 7 (by decide)
      rw [Nat.add_zero] at d0
      clear I1 hp hrow
      generalize S.pers k = bp at *
      generalize hL : (S.hist k).length = L at *
      clear hL
      by_cases h0 : 0 < L
      · have h0i : (0 : Int) < (L : Int) := by omega
        have HEQ := Lib.hid (HSU.out.trans (if_pos h0))
        have HB0 : ∀ ob, Hid (Below w.heap.size wr (wr.alloc ob)) := fun ob => Lib.hid ((Below.refl _ _).alloc HR.out.2.size ob)
        go_wp2_with (at_builtin; go_must (refine wpList_app (by simp [Region.wanted, yielded]) (.tmp 21) (.tmp 23) 79 rfl (v := u3) (B := wr.heap.size + 1 + 1) (c := 1) (A := some ⟨wr.heap.size + 1, 0, none⟩) (zs := [(k : Int)]) Try.underlying79 HI.out HZ0.out HZ1.out HZ2.out rfl rfl ((HR.out.1.alloc _).alloc _) rfl (ints_new2 .i64 wr _ 3 [(k : Int)]) rfl (by have := hdl.out; rw [ints_len]; simp [maxLen]; omega) (by have := hdl.out; rw [ints_len]; simp; omega) (Nat.le_trans HR.out.2.size (by simp; omega)) ?_); intro v2 w2 ho2 hg2 ha2; have hb2 := HR.out.2.trans (((Below.refl w.heap.size wr).alloc HR.out.2.size _).trans ((((Below.refl w.heap.size _).alloc (Nat.le_trans HR.out.2.size (by simp)) _)).trans (((HR.out.1.alloc _).alloc _).grownBelow hg2 (Nat.le_trans HR.out.2.size (by simp; omega))))); have HQ := Lib.hid (And.intro ho2 hb2); clear ho2 hg2 ha2 hb2 HR)
        go_roundw
        case rel => exact ⟨k + 1, by omega, by go_num, Lib.hid ⟨by rw [HEQ.out, ints_snoc]; exact HQ.out.1, HQ.out.2⟩⟩
        case measure => simp [intOf]; omega
      · have h0i : ¬ (0 : Int) < (L : Int) := by omega
        have HEQ := Lib.hid (HSU.out.trans (if_neg h0))
        go_wp2
        go_roundw
        case rel => exact ⟨k + 1, by omega, by go_num, Lib.hid ⟨by rw [HEQ.out]; exact HR.out.1.alloc _, HR.out.2.alloc HR.out.2.size _⟩⟩
        case measure => simp [intOf]; omega
    · have hkn : k = n := by omega
      have hkl : ¬ (k : Int) < (n : Int) := by omega
      subst hkn
      go_wp2
      go_ret
      exact ⟨_, rfl, HR⟩
end Go.Proofs.Ytmipodnfkilcfaa.Dev
