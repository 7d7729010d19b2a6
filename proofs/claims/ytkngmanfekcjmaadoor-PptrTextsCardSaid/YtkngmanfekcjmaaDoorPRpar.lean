/-
  CONTRACT: the reference's Parse.
-/
import Derived.Test.YtkngmanfekcjmaaDoorPRparM
set_option linter.unusedVariables false
set_option linter.unusedSimpArgs false
namespace Go.Proofs.YtkngmanfekcjmaaDoor.Base
open Go.ChangeShapes Go.WideShapes Go.ChangeAt Go.RowKit Go.Sort Go.Lib Go.Proofs.YtkngmanfekcjmaaDoor.PM
theorem idx_zero (c : UInt8) (l : List UInt8) (w : World) : (Instr.index 9 (.string ⟨(c :: l).toArray⟩) (.int .i64 0)).run Tryd.prog w = .ok (.int .u8 (c.toNat : Int)) w := idx_str (c :: l) 0 (by simp) w
theorem slice_one (c : UInt8) (l : List UInt8) (w : World) : (Instr.slice 9 (.string ⟨(c :: l).toArray⟩) (some (.int .i64 1)) none none).run Tryd.prog w = .ok (.string ⟨l.toArray⟩) w := slice_str (c :: l) 1 (by simp) w
theorem not_dig58 (t : List UInt8) : ¬ dig ((58 :: t : List UInt8).getD 0 0) := by simp [dig]
theorem not_dig35 (t : List UInt8) : ¬ dig ((35 :: t : List UInt8).getD 0 0) := by simp [dig]
theorem u8_eq {c : UInt8} {n : Nat} (hn : n < 256) (h : c.toNat = n) : c = UInt8.ofNat n := UInt8.toNat_inj.1 (by rw [ofNat_toNat n hn]; exact h)
theorem rfail1 {l : List UInt8} {n : Nat} {r : List UInt8} {b : Bool} (h : Reads l n r b) (hf : b = false ∨ 127 < n ∨ r.getD 0 0 ≠ 58) : PSpec l 0 11 := by
  refine .inr ⟨rfl, rfl, fun q' hq => ?_⟩
  obtain ⟨k, o, g, hk, ho, hg, hl, _, _⟩ := Spells.steps hq
  obtain ⟨rfl, rfl, rfl⟩ := h.of hl (by omega) (.inr (not_dig58 _))
  rcases hf with h | h | h
  · cases h
  · omega
  · exact h rfl
theorem rfail2 {l t : List UInt8} {n m : Nat} {r : List UInt8} {b : Bool} (h : Reads l n (58 :: t) true) (h2 : Reads t m r b) (hf : b = false ∨ r.getD 0 0 ≠ 35) : PSpec l 0 11 := by
  refine .inr ⟨rfl, rfl, fun q' hq => ?_⟩
  obtain ⟨k, o, g, hk, ho, hg, hl, _, _⟩ := Spells.steps hq
  obtain ⟨rfl, e, _⟩ := h.of hl (by omega) (.inr (not_dig58 _))
  obtain ⟨rfl, rfl, rfl⟩ := h2.of (List.cons.inj e).2 (by omega) (.inr (not_dig35 _))
  rcases hf with h | h
  · cases h
  · exact h rfl
theorem rfail3 {l t u : List UInt8} {n m p : Nat} {r : List UInt8} {b : Bool} (h : Reads l n (58 :: t) true) (h2 : Reads t m (35 :: u) true) (h3 : Reads u p r b) (hf : b = false ∨ 65535 < p ∨ r ≠ [] ∨ mErr (m : Int) (p : Int) (n : Int) ≠ 0) : PSpec l 0 11 := by
  refine .inr ⟨rfl, rfl, fun q' hq => ?_⟩
  obtain ⟨k, o, g, hk, ho, hg, hl, he, _⟩ := Spells.steps hq
  obtain ⟨rfl, e, _⟩ := h.of hl (by omega) (.inr (not_dig58 _))
  obtain ⟨rfl, e2, _⟩ := h2.of (List.cons.inj e).2 (by omega) (.inr (not_dig35 _))
  obtain ⟨rfl, rfl, rfl⟩ := h3.of (t := []) (a := g) (by rw [List.append_nil]; exact (List.cons.inj e2).2) (by omega) (.inl rfl)
  rcases hf with h | h | h | h
  · cases h
  · omega
  · exact h rfl
  · exact h he
theorem rgood {l t u : List UInt8} {n m p : Nat} (h : Reads l n (58 :: t) true) (h2 : Reads t m (35 :: u) true) (h3 : Reads u p [] true) (hn : n ≤ 127) (hm : m < 100000000000) (hp : p ≤ 65535) (he : mErr (m : Int) (p : Int) (n : Int) = 0) : PSpec l (mVal (m : Int) (p : Int) (n : Int)) 0 := by
  refine .inl ⟨rfl, Spells.of ?_ hn hm hp he⟩
  rw [h.back, h2.back, h3.back, List.append_nil]
set_option maxHeartbeats 1600000 in
set_option maxRecDepth 100000 in
theorem rparse_any (l : List UInt8) (w : World) (hl : l.length ≤ 4294967295) (hne : l ≠ [45]) :
    Calls Tryd.prog 30 #[str l] w fun e w' => ∃ q x, e = .returned (two q x) ∧ Below w.heap.size w w' ∧ Hid (PSpec l q x) := by
  have hd : (l == [45]) = false := by simpa using hne
  have hs := str_size l
  have HN1 := Lib.hid (number_reads l w hl)
  clear hne
  go_enter Tryd.func30, Tryd.ntmps30
  go_wp2_with (go_at_call 37; go_must (refine HN1.out.mono ?_); rintro e w1 ⟨n, r, b, HR, ⟨hn, hrl⟩, rfl, hb⟩; refine Hid.out ?_)
  have hB := hb
  clear hb HN1
  cases b with
  | false =>
    have HF := Lib.hid (rfail1 HR.out (.inl rfl))
    refine Lib.hid ?_
    go_wp2
    go_ret2
    exact ⟨0, 11, rfl, hB, Lib.hid (HF.out)⟩
  | true =>
    by_cases h127 : n ≤ 127
    · cases r with
      | nil =>
        have HF := Lib.hid (rfail1 HR.out (.inr (.inr (by decide))))
        refine Lib.hid ?_
        go_wp2
        go_ret2
        exact ⟨0, 11, rfl, hB, Lib.hid (HF.out)⟩
      | cons c t =>
        have hi := fun w => idx_zero c t w
        have hsl := fun w => slice_one c t w
        have hls : (⟨(c :: t).toArray⟩ : ByteArray).size = t.length + 1 := by rw [str_size]; rfl
        have hz : ((t.length : Int) + 1 == 0) = false := by rw [beq_eq_false_iff_ne]; omega
        by_cases hc : c.toNat = 58
        · obtain rfl : c = 58 := u8_eq (by decide) hc
          clear hc
          have hi : ∀ w, (Instr.index 9 (.string ⟨(58 :: t).toArray⟩) (.int .i64 0)).run Tryd.prog w = .ok (.int .u8 58) w := fun w => idx_zero 58 t w
          have htl : t.length ≤ 4294967295 := by simp at hrl; omega
          have HN2 := Lib.hid (fun w => number_reads t w htl)
          clear hs
          refine Lib.hid ?_
          go_wp2_with (go_at_call 37; go_must (refine (HN2.out _).mono ?_); rintro e w2 ⟨m, r2, b2, HR2, ⟨hm, hrl2⟩, rfl, hb2⟩; refine Hid.out ?_)
          have hB := hB.trans (hb2.mono hB.size)
          clear hb2 HN2 hi hsl hls
          cases b2 with
          | false =>
            have HF := Lib.hid (rfail2 HR.out HR2.out (.inl rfl))
            refine Lib.hid ?_
            go_wp2
            go_ret2
            exact ⟨0, 11, rfl, hB, Lib.hid (HF.out)⟩
          | true =>
            cases r2 with
            | nil =>
              have HF := Lib.hid (rfail2 HR.out HR2.out (.inr (by decide)))
              refine Lib.hid ?_
              go_wp2
              go_ret2
              exact ⟨0, 11, rfl, hB, Lib.hid (HF.out)⟩
            | cons c2 u =>
              have hi := fun w => idx_zero c2 u w
              have hsl := fun w => slice_one c2 u w
              have hls : (⟨(c2 :: u).toArray⟩ : ByteArray).size = u.length + 1 := by rw [str_size]; rfl
              have hz : ((u.length : Int) + 1 == 0) = false := by rw [beq_eq_false_iff_ne]; omega
              by_cases hc : c2.toNat = 35
              · obtain rfl : c2 = 35 := u8_eq (by decide) hc
                clear hc
                have hi : ∀ w, (Instr.index 9 (.string ⟨(35 :: u).toArray⟩) (.int .i64 0)).run Tryd.prog w = .ok (.int .u8 35) w := fun w => idx_zero 35 u w
                have hul : u.length ≤ 4294967295 := by simp at hrl2; omega
                have HN3 := Lib.hid (fun w => number_reads u w hul)
                refine Lib.hid ?_
                go_wp2_with (go_at_call 37; go_must (refine (HN3.out _).mono ?_); rintro e w3 ⟨p, r3, b3, HR3, ⟨hp, hrl3⟩, rfl, hb3⟩; refine Hid.out ?_)
                have hB := hB.trans (hb3.mono hB.size)
                clear hb3 HN3 hi hsl hls
                cases b3 with
                | false =>
                  have HF := Lib.hid (rfail3 HR.out HR2.out HR3.out (.inl rfl))
                  refine Lib.hid ?_
                  go_wp2
                  go_ret2
                  exact ⟨0, 11, rfl, hB, Lib.hid (HF.out)⟩
                | true =>
                  by_cases hp6 : p ≤ 65535
                  · cases r3 with
                    | cons c3 v =>
                      have HF := Lib.hid (rfail3 HR.out HR2.out HR3.out (.inr (.inr (.inl (by simp)))))
                      have hls3 : (⟨(c3 :: v).toArray⟩ : ByteArray).size = v.length + 1 := by rw [str_size]; rfl
                      refine Lib.hid ?_
                      go_wp2
                      go_ret2
                      exact ⟨0, 11, rfl, hB, Lib.hid (HF.out)⟩
                    | nil =>
                      have HG := Lib.hid (rgood HR.out HR2.out HR3.out h127 hm hp6)
                      have HX := Lib.hid (fun he => rfail3 HR.out HR2.out HR3.out (.inr (.inr (.inr he))))
                      have HM := Lib.hid (fun w => rmake_any (m : Int) (p : Int) (n : Int) w (by omega) (by omega) (by omega))
                      generalize mVal (m : Int) (p : Int) (n : Int) = q at *
                      generalize mErr (m : Int) (p : Int) (n : Int) = x at *
                      have hw16 : IntKind.u16.wrap (p : Int) = (p : Int) := by rw [IntKind.wrap_u16]; omega
                      have hw8 : IntKind.u8.wrap (n : Int) = (n : Int) := by simp [IntKind.wrap, IntKind.bits, IntKind.signed]; omega
                      refine Lib.hid ?_
                      go_wp2_with (go_at_call 12; go_must (refine (HM.out _).mono ?_); rintro e w4 ⟨rfl, hw⟩; have hw2 := hw.symm; clear hw; subst hw2)
                      all_goals first
                        | (have hh := ‹(x != 0) = false›
                           have hx : x = 0 := by simpa using hh
                           go_ret2
                           exact ⟨q, 0, rfl, hB, Lib.hid (HG.out hx)⟩)
                        | (have hh := ‹(x != 0) = true›
                           have hx : ¬ x = 0 := by simpa using hh
                           go_ret2
                           exact ⟨0, 11, rfl, hB, Lib.hid (HX.out hx)⟩)
                  · have HF := Lib.hid (rfail3 HR.out HR2.out HR3.out (.inr (.inl (by omega))))
                    refine Lib.hid ?_
                    go_wp2
                    go_ret2
                    exact ⟨0, 11, rfl, hB, Lib.hid (HF.out)⟩
              · have HF := Lib.hid (rfail2 HR.out HR2.out (.inr (fun h => hc (by simp at h; rw [h]; rfl))))
                have hcn : ((c2.toNat : Int) != 35) = true := by simp; omega
                refine Lib.hid ?_
                go_wp2
                go_ret2
                exact ⟨0, 11, rfl, hB, Lib.hid (HF.out)⟩
        · have HF := Lib.hid (rfail1 HR.out (.inr (.inr (fun h => hc (by simp at h; rw [h]; rfl)))))
          have hcn : ((c.toNat : Int) != 58) = true := by simp; omega
          refine Lib.hid ?_
          go_wp2
          go_ret2
          exact ⟨0, 11, rfl, hB, Lib.hid (HF.out)⟩
    · have HF := Lib.hid (rfail1 HR.out (.inr (.inl (by omega))))
      refine Lib.hid ?_
      go_wp2
      go_ret2
      exact ⟨0, 11, rfl, hB, Lib.hid (HF.out)⟩
theorem rparse_hyphen (w : World) : Calls Tryd.prog 30 #[str [45]] w fun e w' => e = .returned (two 0 0) ∧ w' = w := by
  go_enter Tryd.func30, Tryd.ntmps30
  go_wp2
  go_ret2
  exact ⟨rfl, rfl⟩
theorem text_nil (w : World) : Calls Tryd.prog 27 #[.int .u64 0] w fun e w' => e = .returned (str [45]) ∧ w' = w := by
  have HN := Lib.hid (nil_any 0 w)
  go_enter Tryd.func27, Tryd.ntmps27
  go_wp2_with (go_at_call 14; refine HN.out.mono ?_; rintro e w' ⟨rfl, hw⟩; have hw2 := hw.symm; clear hw; subst hw2)
  go_ret
  exact ⟨rfl, rfl⟩
end Go.Proofs.YtkngmanfekcjmaaDoor.Base
