/-
  SCHED: the writer's Step: the walk.
-/
import Derived.Test.YthnaogfcffmphaaWStep
set_option linter.unusedVariables false
set_option linter.unusedSimpArgs false
namespace Go.Proofs.Ythnaogfcffmphaa.Sched
open Go.ChangeShapes Go.WideShapes Go.ChangeAt Go.RowKit Go.Proofs.Ythnaogfcffmphaa.Mem Go.Proofs.Ythnaogfcffmphaa.Law Go.Proofs.Ythnaogfcffmphaa.Args Go.Proofs.Ythnaogfcffmphaa.Own Go.Proofs.Ythnaogfcffmphaa.Dev
def Stepped (w w' : World) (base : Nat) (Z : WD) (B : Nat → Nat) (s : X) (i m : Nat) : Prop := Wr w' base Z B (s.go i m) ∧ Only (fun b => WF Z base B b ∧ wTag w b) w w'
theorem Stepped.drewN {w w' : World} {base : Nat} {Z : WD} {B : Nat → Nat} {s : X} {i m : Nat} (h : Stepped w w' base Z B s i m) (ok : WOk Z base B) (hw : base ≤ w.heap.size) (j : Nat) : Stepped w (w'.drewN j) base Z B s i m :=
  ⟨h.1.kept ok (Nat.le_trans hw h.2.size) ((Only.refl (fun _ => False) w').drewN j) (fun _ f => f.elim) (fun _ f => f.elim), h.2.drewN j⟩
set_option maxRecDepth 100000 in
set_option maxHeartbeats 1000000 in
theorem wstep_any (w : World) (base : Nat) (Z : WD) (B : Nat → Nat) (s : X) (i m : Nat) (h : Wr w base Z B s) (ok : WOk Z base B) (hw : base ≤ w.heap.size) (hi : i < 2) (hl : s.left i = some m) (hst : s.steps.length ≤ 1000) :
    Calls Try.prog 77 #[.pointer (some ⟨B i, 0, none⟩)] w fun e w' => e = .returned (.bool (decide (m ≤ 1))) ∧ Hid (Stepped w w' base Z B s i m) := by
  obtain ⟨m0, q1, q2, q3, q4⟩ := h.objs i hi
  rw [hl] at q1
  obtain rfl : m = m0 := by injection q1
  obtain ⟨n, hn⟩ : ∃ n, Z.n i = n := ⟨_, rfl⟩
  have hn30 := ok.zn i hi
  have HN := Lib.hid hn
  obtain ⟨b, hb⟩ : ∃ b, B i = b := ⟨_, rfl⟩
  have HB := Lib.hid hb
  rcases Nat.eq_zero_or_pos m with h0 | h0
  · subst h0
    have c2 : w.cell? ⟨b, 2, none⟩ = some (.slice (Z.E i) n (Z.c i)) := by rw [← hb, q4.cell (o := 2) (by omega), ← hn]; rfl
    have c3 : w.cell? ⟨b, 3, none⟩ = some (.int .i64 (n : Int)) := by rw [← hb, q4.cell (o := 3) (by omega), ← hn]; rfl
    have HI : Hid (∀ w', Below w.heap.size w w' → Stepped w w' base Z B s i 0) := Lib.hid fun w' hb => ⟨h.idle ok hw hi hl hb, Only.ofBelow hb _⟩
    rw [hn] at hn30
    clear h ok q1 q2 q3 q4 hl hn hb
    rw [HB.out]
    go_enter Try.func77, Try.ntmps77
    go_wp2
    go_quiet (fail)
    go_wp2
    go_quiet (fail)
    go_wp2
    go_ret
    exact ⟨rfl, Lib.hid (HI.out _ (by first | exact Below.refl _ _ | exact below_drewN (Below.refl _ _) _ | exact below_drewN (below_drewN (Below.refl _ _) _) _))⟩
  · obtain ⟨k, hk⟩ : ∃ k, k + m = n := ⟨n - m, by omega⟩
    have hkz : k < (Z.z i).length := by rw [ok.zl i hi]; omega
    obtain ⟨ad, hE, hadl, hc⟩ := h.ints i hi k hkz
    obtain ⟨v, hv⟩ : ∃ v : Nat, (Z.z i).getD k 0 = (v : Int) := by
      have := ok.z0 i hi ((Z.z i)[k]) (List.getElem_mem _)
      refine ⟨((Z.z i)[k]).toNat, ?_⟩
      rw [List.getD_eq_getElem?_getD, List.getElem?_eq_getElem hkz]
      simp only [Option.getD_some]
      omega
    rw [hv] at hc
    have HS := Lib.hid (wstored w base Z B s i m k v h ok hw hi hl h0 (by rw [hn]; exact hk) hv hst)
    have hk2 : Z.n i - m = k := by omega
    rw [hk2] at q4
    have c0 : w.cell? ⟨b, 0, none⟩ = some (.pointer (some ⟨Z.d, 1 + i * 4, none⟩)) := by rw [← hb, q4.cell (o := 0) (by omega)]; rfl
    have c1 : w.cell? ⟨b, 1, none⟩ = some (.int .u64 64) := by rw [← hb, q4.cell (o := 1) (by omega)]; rfl
    have c2 : w.cell? ⟨b, 2, none⟩ = some (.slice (some ad) n (Z.c i)) := by rw [← hb, q4.cell (o := 2) (by omega), ← hn, ← hE]; rfl
    have c3 : w.cell? ⟨b, 3, none⟩ = some (.int .i64 (k : Int)) := by rw [← hb, q4.cell (o := 3) (by omega)]; rfl
    have hkn : (k : Int) < (n : Int) := by omega
    have hk0 : (0 : Int) ≤ (k : Int) := by omega
    rw [hn] at hn30
    have hm1 : (decide (m ≤ 1)) = (decide ((n : Int) ≤ (k : Int) + 1)) := by rw [decide_eq_decide]; omega
    have HM := Lib.hid hm1
    have HDN : Hid (∀ w' j, Stepped w w' base Z B s i m → Stepped w (w'.drewN j) base Z B s i m) := Lib.hid fun w' j h => h.drewN ok hw j
    have HF : Hid (∀ w2, Stored w w2 base Z B s i m k → w2.cell? ⟨b, 3, none⟩ = some (.int .i64 (k : Int)) ∧ w2.frozen? ⟨b, 3, none⟩ = false ∧ (w2.setCell ⟨b, 3, none⟩ (.int .i64 ((k : Int) + 1))).cell? ⟨b, 2, none⟩ = some (.slice (some ad) n (Z.c i)) ∧ (w2.setCell ⟨b, 3, none⟩ (.int .i64 ((k : Int) + 1))).cell? ⟨b, 3, none⟩ = some (.int .i64 ((k : Int) + 1)) ∧ Stepped w (w2.setCell ⟨b, 3, none⟩ (.int .i64 ((k : Int) + 1))) base Z B s i m) := Lib.hid fun w2 hs => by
      have b1 := hs.blk
      have b2 := hs.next
      have b3 := hs.wr
      have b4 := hs.only
      rw [hb] at b1 b2 b3 b4
      exact ⟨b1.cell (o := 3) (by omega), b1.frozen 3, (b2.cell (o := 2) (by omega)).trans (by rw [← hn, ← hE]; rfl), (b2.cell (o := 3) (by omega)).trans (by simp [wrG]), b3, b4⟩
    have HH : Hid (∀ w2, Stored w w2 base Z B s i m k → (w2.cell? ⟨b, 0, none⟩ = some (.pointer (some ⟨Z.d, 1 + i * 4, none⟩)) ∧ w2.cell? ⟨b, 1, none⟩ = some (.int .u64 64) ∧ w2.cell? ⟨b, 2, none⟩ = some (.slice (some ad) n (Z.c i)) ∧ w2.cell? ⟨b, 3, none⟩ = some (.int .i64 (k : Int)) ∧ w2.cell? (ad.add k) = some (.int .u64 (v : Int)))) := Lib.hid fun w2 hs => by
      have b1 := hs.blk
      rw [hb] at b1
      exact ⟨b1.cell (o := 0) (by omega), b1.cell (o := 1) (by omega), (b1.cell (o := 2) (by omega)).trans (by rw [← hn, ← hE]; rfl), b1.cell (o := 3) (by omega), (hs.low.cell (p := ad.add k) (by rw [add_block]; exact hadl)).trans hc⟩
    clear h ok q1 q2 q3 q4 hl hn hb hE hv hkz hadl hk2 hm1
    rw [HB.out]
    go_enter Try.func77, Try.ntmps77
    go_wp2
    go_quiet (fail)
    go_wp2
    go_region_held3 (fun w' => w'.cell? ⟨b, 0, none⟩ = some (.pointer (some ⟨Z.d, 1 + i * 4, none⟩)) ∧ w'.cell? ⟨b, 1, none⟩ = some (.int .u64 64) ∧ w'.cell? ⟨b, 2, none⟩ = some (.slice (some ad) n (Z.c i)) ∧ w'.cell? ⟨b, 3, none⟩ = some (.int .i64 (k : Int)) ∧ w'.cell? (ad.add k) = some (.int .u64 (v : Int))) (first | (refine ⟨?_, ?_, ?_, ?_, ?_⟩ <;> assumption) | exact HH.out _ H2.out) (first | (go_at_call 78; go_must (refine (HS.out _ (by first | exact Below.refl _ _ | exact below_drewN (Below.refl _ _) _ | exact (Below.refl _ _).drew | exact (below_drewN (Below.refl _ _) _).drew | exact below_drewN (below_drewN (Below.refl _ _) _) _ | exact (below_drewN (below_drewN (Below.refl _ _) _) _).drew)).mono ?_); rintro e w2 ⟨rfl, H2⟩))
    all_goals
      obtain ⟨d3, f3, d2, d4, hst⟩ := HF.out w2 H2.out
      have HE := Lib.hid hst
      clear hst H2
      go_wp2
      go_quiet (fail)
      go_wp2
      go_ret
      exact ⟨ret_bool (by rw [HM.out]), Lib.hid (by first | exact HE.out | exact HDN.out _ _ HE.out)⟩
end Go.Proofs.Ythnaogfcffmphaa.Sched
