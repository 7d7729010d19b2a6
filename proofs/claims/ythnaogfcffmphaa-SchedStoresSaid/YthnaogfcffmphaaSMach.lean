/-
  SCHED, THE LAW: machines, few.
-/
import Derived.Test.YthnaogfcffmphaaSRuns
import Derived.Deep.AppendLies
set_option linter.unusedVariables false
set_option linter.unusedSimpArgs false
namespace Go.Proofs.Ythnaogfcffmphaa.Sched
open Go.ChangeShapes Go.WideShapes Go.ChangeAt Go.RowKit Go.Proofs.Ythnaogfcffmphaa.Mem Go.Proofs.Ythnaogfcffmphaa.Law Go.Proofs.Ythnaogfcffmphaa.Args Go.Proofs.Ythnaogfcffmphaa.Own
theorem infoMach : (Try.prog.info? 83).map (fun i => (i.zero, i.size, i.bytes)) = some (some .nilIface, 1, 16) := by kernel_rfl
theorem row_of_block {e : TypeId} {w w' : World} {base n : Nat} {v : Value} {xs : List Value} (h : w.ownsRow base e 1 v n xs) (hb : ∀ g, v.ownBlock = some g → w'.heap[g]? = w.heap[g]?) : w'.ownsRow base e 1 v n xs := by
  refine ⟨h.1, ?_⟩
  rcases h.2 with hn | ⟨g, cap, cur, rfl, hbg, hgg, rest⟩
  · exact .inl hn
  · refine .inr ⟨g, cap, cur, rfl, hbg, ?_, rest⟩
    rw [hb g rfl]; exact hgg
theorem row_below {e : TypeId} {w w' : World} {base n : Nat} {v : Value} {xs : List Value} (h : w.ownsRow base e 1 v n xs) (hb : Below w.heap.size w w') : w'.ownsRow base e 1 v n xs :=
  row_of_block h fun g hg => hb.block g (World.ownsRow.lt h g hg).2
theorem row_blk {e : TypeId} {w : World} {base n : Nat} {v : Value} {xs : List Value} (h : w.ownsRow base e 1 v n xs) (hn : 0 < n) : ∃ g cap, v = .slice (some ⟨g, 0, none⟩) n cap ∧ base ≤ g ∧ g < w.heap.size ∧ Blk w g e n (fun i => xs.getD i default) := by
  have h1 := h.1
  rcases h.2 with ⟨_, h0⟩ | ⟨g, cap, cur, rfl, hb, hg, hnc, hcm, hcs, ht⟩
  · omega
  · refine ⟨g, cap, rfl, hb, (Array.getElem?_eq_some_iff.1 hg).1, cur, hg, ?_, fun o ho => ?_⟩
    · have := congrArg List.length ht; simp at this; omega
    · have h2 : (cur.toList.take (n * 1))[o]? = xs[o]? := by rw [ht]
      rw [List.getElem?_take, if_pos (by omega)] at h2
      have h3 : o < xs.length := by omega
      rw [← Array.getElem?_toList, h2]
      simp [List.getD, h3]
def mcells (B : Nat → Nat) (k : Nat) : List Value := (List.range k).map fun i => .iface 41 (.pointer (some ⟨B i, 0, none⟩))
theorem mcells_len (B : Nat → Nat) (k : Nat) : (mcells B k).length = k := by simp [mcells]
theorem mcells_succ (B : Nat → Nat) (k b : Nat) : mcells (fun i => if i = k then b else B i) (k + 1) = mcells B k ++ [.iface 41 (.pointer (some ⟨b, 0, none⟩))] := by
  unfold mcells
  rw [List.range_succ, List.map_append]
  congr 1
  · apply List.map_congr_left
    intro i hi
    have := List.mem_range.1 hi
    have hne : ¬ i = k := by omega
    simp [hne]
  · simp
theorem mcells_at (B : Nat → Nat) (k i : Nat) (h : i < k) : (mcells B k).getD i default = .iface 41 (.pointer (some ⟨B i, 0, none⟩)) := by simp [mcells, List.getD, h]
def leftsOf (zs : List Int) : Nat → Option Nat := fun i => some (need (zs.getD i 0))
structure Machs (w wr : World) (zs : List Int) (v : Value) (B : Nat → Nat) (k : Nat) : Prop where
  row : wr.ownsRow w.heap.size 83 1 v k (mcells B k)
  objs : ∀ i, i < k → IsSteps wr (B i) (need (zs.getD i 0))
  low : ∀ i, i < k → w.heap.size ≤ B i
  inj : ∀ i j, i < k → j < k → B i = B j → i = j
  bel : Below w.heap.size w wr
theorem one_iface (a : Addr) : ∀ u ∈ [Value.iface 41 (.pointer (some a))], u.oneCell' = true := by
  intro u h
  simp only [List.mem_cons, List.not_mem_nil, or_false] at h
  subst h; rfl
theorem Machs.next {w wr w2 w3 : World} {zs : List Int} {v v3 : Value} {B : Nat → Nat} {k : Nat} {ob : Obj} (h : Machs w wr zs v B k) (h1 : IsSteps w2 wr.heap.size (need (zs.getD k 0))) (b1 : Below wr.heap.size wr w2)
    (h2 : w3.ownsRow w.heap.size 83 1 v3 (k + 1) (mcells B k ++ [.iface 41 (.pointer (some ⟨wr.heap.size, 0, none⟩))])) (hg : (w2.alloc ob).grownBy w3 v.ownBlock) : Machs w w3 zs v3 (fun i => if i = k then wr.heap.size else B i) (k + 1) := by
  have hlt := World.ownsRow.lt h.row
  have o2 : Only (fun b => v.ownBlock = some b) w2 w3 := ((Only.refl _ w2).alloc ob).trans (Only.ofGrown hg (fun k hk => .inl hk))
  have nv : ∀ b T, Tag w2 b T → T ≠ 83 → ¬ v.ownBlock = some b := fun b T ht hT hb => by
    rcases h.row.2 with ⟨rfl, _⟩ | ⟨g, cap, cur, rfl, _, hgg, _⟩
    · cases hb
    · have : g = b := by simpa [Value.ownBlock] using hb
      subst this
      refine ht.ne ⟨cur, (0, 0), ?_⟩ hT rfl
      rw [b1.block g (hlt g rfl).2]; exact hgg
  refine ⟨by rw [mcells_succ]; exact h2, fun i hi => ?_, fun i hi => ?_, fun i j hi hj e => ?_, ?_⟩
  · by_cases e : i = k
    · subst e; simp only [if_pos rfl]; exact o2.blk h1 (nv _ _ (blk_tag h1) (by decide))
    · simp only [if_neg e]
      have h3 := (h.objs i (by omega))
      have h4 : IsSteps w2 (B i) (need (zs.getD i 0)) := Blk.below h3 b1 h3.lt
      exact o2.blk h4 (nv _ _ (blk_tag h4) (by decide))
  · by_cases e : i = k
    · subst e; simp only [if_pos rfl]; exact h.bel.size
    · simp only [if_neg e]; exact h.low i (by omega)
  · by_cases e1 : i = k <;> by_cases e2 : j = k
    · omega
    · have e' : wr.heap.size = B j := by simpa [e1, e2] using e
      have := (h.objs j (by omega)).lt; omega
    · have e' : B i = wr.heap.size := by simpa [e1, e2] using e
      have := (h.objs i (by omega)).lt; omega
    · simp only [if_neg e1, if_neg e2] at e; exact h.inj i j (by omega) (by omega) e
  · refine (h.bel.trans (b1.mono h.bel.size)).trans (o2.below (Nat.le_trans h.bel.size b1.size) fun b hb => ?_)
    exact (hlt b hb).1
set_option maxRecDepth 100000 in
set_option maxHeartbeats 1000000 in
theorem machines_any (w : World) (Ap : Option Addr) (n cp Bp : Nat) (zs : List Int) (hn : n ≤ 1000) (hl : zs.length = n) (hr : Hid (IntsAt .i64 w Bp Ap zs)) (hB : Bp ≤ w.heap.size) :
    Calls Try.prog 14 #[.slice Ap n cp] w fun e w' => ∃ ma mc B, e = .returned (.slice ma n mc) ∧ Hid (IsObjs w' ⟨0, B, ma, mc, .nilIface, .nilIface⟩ (X.init n (leftsOf zs)) ∧ (∀ i, i < n → w.heap.size ≤ B i) ∧ Below w.heap.size w w') := by
  obtain ⟨i0, hi, hz0, hz1, hz2⟩ := info_parts infoMach
  have HI := Lib.hid hi
  have HZ0 := Lib.hid hz0
  have HZ1 := Lib.hid hz1
  have HZ2 := Lib.hid hz2
  have HL := Lib.hid hl
  clear hi hz0 hz1 hz2 hl
  have hn63 : n ≤ 9223372036854775807 := by omega
  go_enter Try.func14, Try.ntmps14
  go_wp2
  go_loopw [3, 8] (fun v i wr => ∃ k : Nat, k ≤ n ∧ i = .int .i64 k ∧ Hid (∃ B, Machs w wr zs v B k)) (fun _ i _ => n - (intOf i).toNat)
  case atStart => exact ⟨0, by omega, rfl, Lib.hid ⟨fun _ => 0, World.ownsRow_nil _ _ _ _, fun i h => absurd h (by omega), fun i h => absurd h (by omega), fun i j h => absurd h (by omega), Below.refl _ _⟩⟩
  case round =>
    obtain ⟨k, hk, rfl, HO⟩ := hrel
    obtain ⟨B, hR⟩ := HO.out
    have HR := Lib.hid hR
    clear HO hR
    by_cases hkn : k < n
    · have hki : (k : Int) < (n : Int) := by omega
      have hk0 : (0 : Int) ≤ (k : Int) := by omega
      have hkl : k < zs.length := by have := HL.out; omega
      obtain ⟨ad, rfl, hlt, hc0⟩ := hr.out k hkl
      have hc := (HR.out.bel.cell (p := ad.add k) (by rw [add_block]; omega)).trans hc0
      obtain ⟨z, hz⟩ : ∃ z, zs.getD k 0 = z := ⟨_, rfl⟩
      rw [hz] at hc
      have HZ := Lib.hid hz
      clear hz hkl hc0
      go_wp2_with (first
        | (go_at_call 20; refine (of_any z _).mono ?_; rintro e w2 ⟨rfl, H2⟩; have HRW := Lib.hid (row_below HR.out.row H2.out.2))
        | (at_builtin; refine wpList_append_lies _ rfl _ _ 29 rfl w.heap.size 83 i0 .nilIface 1 16 Try.underlying29 HI.out HZ0.out HZ1.out HZ2.out rfl (by decide) u3 k (mcells B k) rfl (World.ownsRow.alloc HRW.out _) ⟨w2.heap.size, 0, none⟩ 1 1 [.iface 41 (.pointer (some ⟨wr.heap.size, 0, none⟩))] rfl rfl (cell_one_new _ _ _) (one_iface _) (by decide) (by simp [maxLen]; omega) (by omega) (by have := HR.out.bel.size; have := H2.out.2.size; simp; omega) (w2.heap.size + 1) (by simp) ?_; intro gb cap w3 hown' hgr hob hlt3; have HN := Lib.hid (HR.out.next (by rw [HZ.out]; exact H2.out.1) H2.out.2 hown' hgr); clear hown' hgr hob hlt3))
      go_roundw
      case rel => exact ⟨k + 1, by omega, by go_num, Lib.hid ⟨_, HN.out⟩⟩
      case measure => simp [intOf]; omega
    · have hk2 : k = n := by omega
      subst hk2
      have hv : ∃ ma mc, u3 = .slice ma k mc ∧ (k = 0 ∨ ∃ g, ma = some ⟨g, 0, none⟩ ∧ Blk wr g 83 k (machV B (leftsOf zs))) := by
        rcases Nat.eq_zero_or_pos k with h0 | h0
        · rcases HR.out.row.2 with ⟨h1, _⟩ | ⟨g, cap, cur, h1, _⟩
          · exact ⟨_, _, by rw [h1, h0], .inl h0⟩
          · exact ⟨_, _, h1, .inl h0⟩
        · obtain ⟨g, cap, h1, _, _, h2⟩ := row_blk HR.out.row h0
          exact ⟨_, _, h1, .inr ⟨g, rfl, h2.ext fun o ho => by rw [mcells_at _ _ _ ho]; rfl⟩⟩
      obtain ⟨ma, mc, rfl, hv⟩ := hv
      have HV := Lib.hid hv
      clear hv
      go_wp2
      go_ret
      refine ⟨ma, mc, B, rfl, Lib.hid ⟨⟨HV.out, fun i hi m hm => ?_, fun i j hi hj _ _ => HR.out.inj i j hi hj⟩, HR.out.low, HR.out.bel⟩⟩
      have : m = need (zs.getD i 0) := by simpa [X.init, leftsOf, eq_comm] using hm
      rw [this]; exact HR.out.objs i hi
end Go.Proofs.Ythnaogfcffmphaa.Sched
