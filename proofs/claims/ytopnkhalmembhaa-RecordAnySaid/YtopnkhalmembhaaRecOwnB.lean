/-
  CONTRACTS: Encode and Decode of the law's codec own.
-/
import Derived.Test.YtopnkhalmembhaaRecOwn
import Derived.Test.YtopnkhalmembhaaRecArrD
set_option linter.unusedVariables false
set_option linter.unusedSimpArgs false
namespace Go.Proofs.Ytopnkhalmembhaa.Rec
open Go.ChangeShapes Go.WideShapes Go.ChangeAt Go.RowKit Go.Proofs.Ytopnkhalmembhaa.Mem Go.Proofs.Ytopnkhalmembhaa.Law Go.Proofs.Ytopnkhalmembhaa.Args Go.Proofs.Ytopnkhalmembhaa.Own
/-- The words of the number x in own's L + 1 words. -/
def ows (x : Int) (L : Nat) : List Int := x :: List.replicate L 0
theorem ows_len (x : Int) (L : Nat) : (ows x L).length = L + 1 := by simp [ows]
theorem ows_at (x : Int) (L j : Nat) : (ows x L).getD (j + 1) 0 = 0 := by
  unfold ows
  simp only [List.getD_cons_succ]
  rw [List.getD_eq_getElem?_getD, List.getElem?_replicate]
  split <;> rfl
theorem own_enc_no (n x : Int) (A : Option Addr) (L cap : Nat) (w : World) (h : L = 0 ∨ (L : Int) ≠ n ∨ 9 < x) :
    Calls Try.prog 123 #[ownV n, .int .u64 x, .slice A L cap] w fun e w' => e = .returned (.bool false) ∧ Below w.heap.size w w' := by
  by_cases c1 : (L : Int) = 0
  · go_enter Try.func123, Try.ntmps123
    go_wp2
    go_ret
    exact ⟨rfl, al1 _ _⟩
  · have e1 : ((L : Int) == 0) = false := by simpa using c1
    by_cases c2 : (L : Int) = n
    · have c3 : 9 < x := by omega
      subst c2
      go_enter Try.func123, Try.ntmps123
      go_wp2
      go_ret
      exact ⟨rfl, al1 _ _⟩
    · go_enter Try.func123, Try.ntmps123
      go_wp2
      go_ret
      exact ⟨rfl, al1 _ _⟩
theorem own_enc_yes (x : Int) (L b off c n : Nat) (T : TypeId) (g : Nat → Value) (w : World) (hx : x ≤ 9) (H : Hid (Blk w b T n g)) (hoff : off + (L + 1) ≤ n) (hL : L ≤ 4095) :
    Calls Try.prog 123 #[ownV ((L + 1 : Nat) : Int), .int .u64 x, .slice (some ⟨b, off, none⟩) (L + 1) c] w fun e w' => e = .returned (.bool true) ∧ Hid (Blk w' b T n (put g off ((ows x L).map (Value.int .u64))) ∧ Only (· = b) w w') := by
  obtain ⟨M, hM⟩ : ∃ M, L + 1 = M := ⟨_, rfl⟩
  have hb := H.out.lt
  have hcl2 : ∀ ty, (Builtin.clear_ #[24] ty #[.slice (some ⟨b, off, none⟩) (L + 1) c]).run Try.prog (w.alloc (.cells #[.int .i64 ((L + 1 : Nat) : Int)] 83)) = .ok (.tuple #[]) ((w.alloc (.cells #[.int .i64 ((L + 1 : Nat) : Int)] 83)).setCells b off (List.replicate (L + 1) (.int .u64 0))) := fun ty => by
    have hz : ∀ w, (zeroValue 22).run Try.prog w = .ok (.int .u64 0) w := Try.zeroValue22
    have hB := H.out.alloc (.cells #[.int .i64 ((L + 1 : Nat) : Int)] 83)
    exact Lib.run_clear_slice _ 24 22 ty (.int .u64 0) Try.underlying24 hz rfl rfl b off (L + 1) c (by omega) (fun j hj => by rw [hB.cell (by omega)]; rfl) (fun j hj => hB.frozen _)
  have HBa := H.out.alloc (.cells #[.int .i64 ((L + 1 : Nat) : Int)] 83)
  obtain ⟨W0, hW0⟩ : ∃ W0, (w.alloc (.cells #[.int .i64 ((L + 1 : Nat) : Int)] 83)).setCells b off (List.replicate (L + 1) (.int .u64 0)) = W0 := ⟨_, rfl⟩
  have HB0 : Blk W0 b T n (put g off (List.replicate (L + 1) (.int .u64 0))) := by rw [← hW0]; exact blk_setCells _ _ HBa
  have HO0 : Only (· = b) w W0 := by rw [← hW0]; exact Only.after (al1 w _) (only_setCells _ _ _)
  have hcl3 : ∀ ty, (Builtin.clear_ #[24] ty #[.slice (some ⟨b, off, none⟩) (L + 1) c]).run Try.prog (w.alloc (.cells #[.int .i64 ((L + 1 : Nat) : Int)] 83)) = .ok (.tuple #[]) W0 := fun ty => by rw [hcl2 ty, ← hW0]
  clear hcl2 hW0 HBa
  have hc0 : W0.cell? ⟨b, off, none⟩ = some (.int .u64 0) := by
    rw [HB0.cell (by omega)]
    unfold put
    rw [if_pos ⟨Nat.le_refl _, by simp⟩, Nat.sub_self]
    rfl
  have hf0 := HB0.frozen off
  have HK : Hid (Blk (W0.setCell ⟨b, off, none⟩ (.int .u64 x)) b T n (put g off ((ows x L).map (Value.int .u64))) ∧ Only (· = b) w (W0.setCell ⟨b, off, none⟩ (.int .u64 x))) := Lib.hid ⟨(HB0.set off (.int .u64 x)).ext (fun o ho => by
    unfold ows upd put
    simp only [List.length_map, List.length_cons, List.length_replicate]
    by_cases h1 : o = off
    · subst h1
      rw [if_pos rfl, if_pos (by omega), Nat.sub_self]
      rfl
    · rw [if_neg h1]
      by_cases h2 : off ≤ o ∧ o < off + (L + 1)
      · rw [if_pos h2, if_pos h2]
        obtain ⟨k, hk⟩ : ∃ k, o - off = k + 1 := ⟨o - off - 1, by omega⟩
        rw [hk, List.replicate_succ, List.map_cons, List.map_replicate]
        rfl
      · rw [if_neg h2, if_neg h2]), HO0.set ⟨b, off, none⟩ _ (.inl rfl)⟩
  clear HB0 HO0
  rw [hM] at hcl3 ⊢
  have e1 : ((M : Int) == 0) = false := by simp; omega
  have hMp : 0 < M := by omega
  have hMl : M ≤ 4096 := by omega
  clear hM hoff
  go_enter Try.func123, Try.ntmps123
  go_wp2
  go_ret
  exact ⟨rfl, HK⟩
theorem own_dec_no (n : Int) (A : Option Addr) (L cap : Nat) (w : World) (h : L = 0 ∨ (L : Int) ≠ n) :
    Calls Try.prog 122 #[ownV n, .slice A L cap] w fun e w' => e = .returned (.tuple #[.int .u64 0, .bool false]) ∧ Below w.heap.size w w' := by
  by_cases c1 : (L : Int) = 0
  · go_enter Try.func122, Try.ntmps122
    go_wp2
    go_ret2
    exact ⟨rfl, al1 _ _⟩
  · have e1 : ((L : Int) == 0) = false := by simpa using c1
    have c2 : ¬ (L : Int) = n := by omega
    go_enter Try.func122, Try.ntmps122
    go_wp2
    go_ret2
    exact ⟨rfl, al1 _ _⟩
theorem own_dec_yes (x : Int) (L c B : Nat) (A : Option Addr) (w : World) (hx : x ≤ 9) (hL : L ≤ 4095) (hcap : L + 1 ≤ c) (H : Hid (IntsAt .u64 w B A (ows x L))) (hB : B ≤ w.heap.size) :
    Calls Try.prog 122 #[ownV ((L + 1 : Nat) : Int), .slice A (L + 1) c] w fun e w' => e = .returned (.tuple #[.int .u64 x, .bool true]) ∧ Below w.heap.size w w' := by
  obtain ⟨ad, rfl, hlt, hc⟩ := H.out 0 (by simp [ows])
  have hc0 : w.cell? ad = some (.int .u64 x) := hc
  have hc1 := fun o : Obj => Lib.cell?_alloc_some o hc0
  have HR : Hid (∀ o : Obj, IntsAt .u64 (w.alloc o) B (some ⟨ad.block, ad.off + 1, none⟩) (List.replicate L 0)) := Lib.hid (fun o => intsAt_tail (ia1 H hB o).out 0)
  obtain ⟨M, hM⟩ : ∃ M, L + 1 = M := ⟨_, rfl⟩
  clear hc
  have HLM := Lib.hid hM
  rw [hM] at hcap ⊢
  have e1 : ((M : Int) == 0) = false := by simp; omega
  have hMp : 0 < M := by omega
  have hMl : M ≤ 4096 := by omega
  clear hM
  go_enter Try.func122, Try.ntmps122
  go_wp2
  all_goals
    go_loopw [27] (fun i wr => ∃ k : Nat, k ≤ M - 1 ∧ i = .int .i64 k ∧ w.alloc (.cells #[.int .i64 (M : Int)] 83) = wr) (fun i _ => M - 1 - (intOf i).toNat)
    case atStart => exact ⟨0, by omega, rfl, rfl⟩
    case round =>
      obtain ⟨k, hk, rfl, rfl⟩ := hrel
      by_cases hlt2 : k < M - 1
      · first
          | (exfalso; omega)
          | (obtain ⟨ad2, e2, _, hk0⟩ := (HR.out (.cells #[.int .i64 (M : Int)] 83)) k (by have := HLM.out; simp; omega)
             injection e2 with e2
             subst e2
             have hk1 := hk0.trans (congrArg (fun z => some (Value.int .u64 z)) (show (List.replicate L (0 : Int)).getD k 0 = 0 by rw [List.getD_eq_getElem?_getD, List.getElem?_replicate]; split <;> rfl))
             have hk2 : (w.alloc (.cells #[.int .i64 (M : Int)] 83)).cell? ⟨ad.block, ad.off + 1 + k, none⟩ = some (.int .u64 0) := by
               rw [← hk1]
               congr 1
               unfold Addr.add
               by_cases h0 : k = 0
               · subst h0; rfl
               · rw [if_neg h0]
             clear hk0 hk1
             go_wp2
             go_roundw
             case rel => exact ⟨k + 1, by omega, by go_num, by first | rfl | trivial⟩
             case measure => simp [intOf]; omega)
      · go_wp2
        go_ret2
        exact ⟨rfl, al1 _ _⟩
end Go.Proofs.Ytopnkhalmembhaa.Rec
