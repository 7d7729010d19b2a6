/-
  CONTRACTS: the reference's Array and Unarray.
-/
import Derived.Test.YtcoknkhgilbpdaaRecArrD
set_option linter.unusedVariables false
set_option linter.unusedSimpArgs false
namespace Go.Proofs.Ytcoknkhgilbpdaa.Rec
open Go.ChangeShapes Go.WideShapes Go.ChangeAt Go.RowKit Go.Proofs.Ytcoknkhgilbpdaa.Mem Go.Proofs.Ytcoknkhgilbpdaa.Law Go.Proofs.Ytcoknkhgilbpdaa.Args Go.Proofs.Ytcoknkhgilbpdaa.Own
/-- The reference's words of an array. -/
def rarr (k : Nat) (zs : List Int) : List Int := (zs.length : Int) :: (zs ++ List.replicate (k - zs.length) 0)
def slen : Value → Nat
  | .slice _ n _ => n
  | _ => 0
theorem own_lit (w : World) (T : TypeId) (k : IntKind) (x : Int) {base : Nat} (hb : base ≤ w.heap.size) : OwnInts k T (w.alloc (.cells #[.int k x] T)) base (.slice (some ⟨w.heap.size, 0, none⟩) 1 1) [x] :=
  World.ownsRow_lit w #[.int k x] 1 hb (by simp [maxLen]) rfl
theorem rarr_bad (n : Int) (A : Option Addr) (m c : Nat) (w : World) (hn : n < 0 ∨ 4096 ≤ n ∨ n < (m : Int)) :
    Calls Try.prog 30 #[.int .i64 n, .slice A m c] w fun e w' => e = .returned (.tuple #[.slice none 0 0, .bool false]) ∧ w = w' := by
  go_enter Try.func30, Try.ntmps30
  by_cases h1 : n < 0
  · go_wp2
    go_ret2
    exact ⟨rfl, rfl⟩
  · by_cases h2 : 4096 ≤ n
    · go_wp2
      go_ret2
      exact ⟨rfl, rfl⟩
    · have h3 : n < (m : Int) := by omega
      go_wp2
      go_ret2
      exact ⟨rfl, rfl⟩
set_option maxRecDepth 100000 in
set_option maxHeartbeats 1000000 in
theorem rarr_ok (k : Nat) (A : Option Addr) (m c B : Nat) (zs : List Int) (w : World) (hk : k ≤ 4095) (hm : m ≤ k) (hl : zs.length = m) (hr : Hid (IntsAt .u64 w B A zs)) (hB : B ≤ w.heap.size) :
    Calls Try.prog 30 #[.int .i64 (k : Int), .slice A m c] w fun e w' => ∃ v, e = .returned (.tuple #[v, .bool true]) ∧ Hid (OwnInts .u64 22 w' w.heap.size v (rarr k zs) ∧ Below w.heap.size w w') := by
  obtain ⟨i0, hi, hz0, hz1, hz2⟩ := info_parts info64
  have HI := Lib.hid hi
  have HZ0 := Lib.hid hz0
  have HZ1 := Lib.hid hz1
  have HZ2 := Lib.hid hz2
  have HL := Lib.hid hl
  have h1 : ¬ ((k : Int) < 0) := by omega
  have h2 : ¬ (4096 ≤ (k : Int)) := by omega
  have h2' : ¬ (4096 ≤ k) := by omega
  have h3 : ¬ k < m := by omega
  have HM0 : Hid ((.cells #[.int .u64 (m : Int)] 22 : Obj) = (.cells #[.int .u64 (m : Int)] 22 : Obj)) := Lib.hid rfl
  have HS : Hid (1 + m ≤ maxLen) := Lib.hid (by simp only [maxLen]; omega)
  clear hi hz0 hz1 hz2 hl HM0
  go_enter Try.func30, Try.ntmps30
  go_wp2_with (first
    | (at_builtin; refine wpList_app (by simp [Region.wanted, yielded]) (.tmp 22) (.tmp 23) 24 rfl (A := A) (zs := zs) (v := .slice (some ⟨w.heap.size, 0, none⟩) 1 1) (B := B) Try.underlying24 HI.out HZ0.out HZ1.out HZ2.out rfl rfl (own_lit w 22 .u64 (m : Int) (Nat.le_refl _)) rfl (hr.out.below ((Below.refl B w).alloc hB _)) HL.out HS.out (by simp; omega) (by simp) ?_; intro v2 w2 ho2 hg2 ha2; have hb2 := (al1 w (.cells #[.int .u64 (m : Int)] 22)).trans ((own_lit w 22 .u64 (m : Int) (Nat.le_refl _)).grownBelow hg2 (by simp)); have HQ := Lib.hid (And.intro ho2 hb2); clear ho2 hg2 ha2 hb2))
  have HQ0 : Hid (OwnInts .u64 22 w2 w.heap.size v2 (((m : Int) :: zs) ++ List.replicate 0 0) ∧ Below w.heap.size w w2) := Lib.hid (by have := HQ.out; simpa using this)
  obtain ⟨A2, c2, e2, _, _, _, _⟩ := HQ0.out.1.form
  have e3 : v2 = .slice A2 (m + 1) c2 := by rw [e2]; simp [HL.out]
  subst e3
  clear e2 HQ
  go_loopw [6] (fun v wr => ∃ j A2 c2, j ≤ k - m ∧ v = .slice A2 (m + 1 + j) c2 ∧ Hid (OwnInts .u64 22 wr w.heap.size v (((m : Int) :: zs) ++ List.replicate j 0) ∧ Below w.heap.size w wr)) (fun v _ => k + 1 - slen v)
  case atStart => exact ⟨0, A2, c2, by omega, rfl, HQ0⟩
  case round =>
    obtain ⟨j, A3, c3, hj, rfl, HR⟩ := hrel
    by_cases hlt : m + 1 + j < k + 1
    · have HSS : Hid ((((m : Int) :: zs) ++ List.replicate j 0).length + 1 ≤ maxLen) := Lib.hid (by simp only [maxLen, List.length_append, List.length_cons, List.length_replicate, HL.out]; omega)
      have HST : Hid (((((m : Int) :: zs) ++ List.replicate j 0).length + 1) * 8 ≤ 140737488355328) := Lib.hid (by simp only [List.length_append, List.length_cons, List.length_replicate, HL.out]; omega)
      have HWB := Lib.hid (Nat.le_trans HR.out.2.size (Nat.le_succ _))
      go_wp2_with (first
        | (at_builtin; refine wpList_app (by simp [Region.wanted, yielded]) (.tmp 30) (.tmp 31) 24 rfl (v := .slice A3 (m + 1 + j) c3) (B := wr.heap.size + 1) (c := 1) (A := some ⟨wr.heap.size, 0, none⟩) (zs := [0]) Try.underlying24 HI.out HZ0.out HZ1.out HZ2.out rfl rfl (HR.out.1.alloc _) rfl (IntsAt.new .u64 wr 22 (0, 0) [0]) rfl HSS.out HST.out (Nat.le_trans HR.out.2.size (by simp)) ?_; intro v4 w4 ho4 hg4 ha4; have hb4 := HR.out.2.trans (((Below.refl w.heap.size wr).alloc HR.out.2.size _).trans ((HR.out.1.alloc _).grownBelow hg4 (Nat.le_trans HR.out.2.size (by simp)))); have HQ4 := Lib.hid (And.intro ho4 hb4); clear ho4 hg4 ha4 hb4))
      have HQ5 : Hid (OwnInts .u64 22 w4 w.heap.size v4 (((m : Int) :: zs) ++ List.replicate (j + 1) 0) ∧ Below w.heap.size w w4) := Lib.hid (by
        have := HQ4.out
        rw [List.append_assoc, ← List.replicate_succ'] at this
        exact this)
      obtain ⟨A5, c5, e5, _, _, _, _⟩ := HQ5.out.1.form
      have e6 : v4 = .slice A5 (m + 1 + (j + 1)) c5 := by rw [e5]; simp [HL.out]; omega
      subst e6
      clear e5 HQ4
      go_wp2
      go_roundw
      case rel => exact ⟨j + 1, A5, c5, by omega, rfl, HQ5⟩
      case measure => simp [slen]; omega
    · have hjk : j = k - m := by omega
      go_wp2
      go_ret2
      exact ⟨_, rfl, Lib.hid ⟨by
        have := HR.out.1
        unfold rarr
        rw [HL.out, ← hjk]
        exact this, HR.out.2⟩⟩
end Go.Proofs.Ytcoknkhgilbpdaa.Rec
