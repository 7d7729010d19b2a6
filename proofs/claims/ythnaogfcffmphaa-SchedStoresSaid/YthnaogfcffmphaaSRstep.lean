/-
  SCHED, THE REFERENCE: step.
-/
import Derived.Test.YthnaogfcffmphaaSRef
import Derived.Deep.RegionHeld3
import Derived.Deep.DeepMust
set_option linter.unusedVariables false
set_option linter.unusedSimpArgs false
namespace Go.Proofs.Ythnaogfcffmphaa.Sched
open Go.ChangeShapes Go.WideShapes Go.ChangeAt Go.RowKit Go.Proofs.Ythnaogfcffmphaa.Mem Go.Proofs.Ythnaogfcffmphaa.Law Go.Proofs.Ythnaogfcffmphaa.Args Go.Proofs.Ythnaogfcffmphaa.Own
structure IsLog (w : World) (base : Nat) (vs ve : Value) (steps ended : List Int) : Prop where
  steps : OwnInts .i64 3 w base vs steps
  ended : OwnInts .i64 3 w base ve ended
  ne : vs.ownBlock = none ∨ vs.ownBlock ≠ ve.ownBlock
  hw : base ≤ w.heap.size
theorem IsLog.only {w w' : World} {base : Nat} {vs ve : Value} {steps ended : List Int} {F : Nat → Prop} (h : IsLog w base vs ve steps ended) (ho : Only F w w') (hF : ∀ b, F b → w.heap.size ≤ b ∨ ∃ T, T ≠ 3 ∧ Tag w b T) : IsLog w' base vs ve steps ended := by
  have k : ∀ {v zs}, OwnInts .i64 3 w base v zs → ∀ g, v.ownBlock = some g → ¬ F g := fun {v zs} hv g hg f => by
    rcases hF g f with h1 | ⟨T, hT, ht⟩
    · have := (hv.lt g hg).2; omega
    · exact ht.ne (own_tag hv hg) hT rfl
  exact ⟨own_only h.steps ho (k h.steps), own_only h.ended ho (k h.ended), h.ne, Nat.le_trans h.hw ho.size⟩
theorem IsLog.below {w w' : World} {base : Nat} {vs ve : Value} {steps ended : List Int} (h : IsLog w base vs ve steps ended) (hb : Below w.heap.size w w') : IsLog w' base vs ve steps ended :=
  h.only (Only.ofBelow hb (fun b => w.heap.size ≤ b)) (fun b hb => .inl hb)
def pairG (a b : Value) : Nat → Value := fun o => if o = 0 then a else b
theorem newPair (w : World) (a b : Value) (T : TypeId) : Blk (w.alloc (.cells #[a, b] T)) w.heap.size T 2 (pairG a b) := Blk.newOf w _ _ rfl (fun o ho => by
    rcases o with _ | _ | o
    · rfl
    · rfl
    · omega)
def LF (base : Nat) (w : World) : Nat → Prop := fun b => base ≤ b ∧ Tag w b 3
structure St1 (w w3 : World) (base b : Nat) (vs ve : Value) (steps ended : List Int) : Prop where
  box : Blk w3 b 31 2 (pairG vs ve)
  res : Blk w3 (b + 1) 31 2 (pairG (.slice none 0 0) (.slice none 0 0))
  log : IsLog w3 base vs ve steps ended
  hb : w.heap.size ≤ b
  hw : base ≤ w.heap.size
  only : Only (LF base w) w w3
theorem St1.bel {w w3 : World} {base b : Nat} {vs ve : Value} {steps ended : List Int} (h : St1 w w3 base b vs ve steps ended) : Below base w w3 := h.only.below h.hw (fun b hb => hb.1)
theorem St1.below {w w3 w4 : World} {base b : Nat} {vs ve : Value} {steps ended : List Int} (h : St1 w w3 base b vs ve steps ended) (hb : Below w3.heap.size w3 w4) : St1 w w4 base b vs ve steps ended :=
  ⟨h.box.below hb h.box.lt, h.res.below hb h.res.lt, h.log.below hb, h.hb, h.hw, h.only.trans' (Only.ofBelow hb (fun _ => False)) (fun b hb => hb.elim)⟩
theorem St1.of {w w2 : World} {base n g c : Nat} {vs ve : Value} {steps ended : List Int} {i : Int} {ob : Obj} (h : IsLog w base vs ve steps ended)
    (h2 : OwnInts .i64 3 w2 base (.slice (some ⟨g, 0, none⟩) n c) (steps ++ [i])) (hg : ((((w.alloc (.cells #[vs, ve] 31)).alloc (.cells #[.slice none 0 0, .slice none 0 0] 31))).alloc ob).grownBy w2 vs.ownBlock)
    (ha : some g = vs.ownBlock ∨ some g = some ((((w.alloc (.cells #[vs, ve] 31)).alloc (.cells #[.slice none 0 0, .slice none 0 0] 31))).alloc ob).heap.size) :
    St1 w (w2.setCell ⟨w.heap.size, 0, none⟩ (.slice (some ⟨g, 0, none⟩) n c)) base w.heap.size (.slice (some ⟨g, 0, none⟩) n c) ve (steps ++ [i]) ended ∧ w2.cell? ⟨w.heap.size, 0, none⟩ = some vs ∧ w2.frozen? ⟨w.heap.size, 0, none⟩ = false := by
  have o2 : Only (fun b => vs.ownBlock = some b) ((w.alloc (.cells #[vs, ve] 31)).alloc (.cells #[.slice none 0 0, .slice none 0 0] 31)) w2 := ((Only.refl _ _).alloc ob).trans (Only.ofGrown hg (fun k hk => .inl hk))
  have hb0 := (newPair w vs ve 31).alloc (.cells #[.slice none 0 0, .slice none 0 0] 31)
  have hr0 := newPair (w.alloc (.cells #[vs, ve] 31)) (.slice none 0 0) (.slice none 0 0) 31
  have b1 : Below w.heap.size w ((w.alloc (.cells #[vs, ve] 31)).alloc (.cells #[.slice none 0 0, .slice none 0 0] 31)) := ((Below.refl _ w).alloc (Nat.le_refl _) _).alloc (by simp) _
  have l1 := h.below b1
  have nv : ∀ b, Tag ((w.alloc (.cells #[vs, ve] 31)).alloc (.cells #[.slice none 0 0, .slice none 0 0] 31)) b 31 → ¬ vs.ownBlock = some b := fun b ht hb => ht.ne (own_tag l1.steps hb) (by decide) rfl
  have hb2 := o2.blk hb0 (nv _ (blk_tag hb0))
  have hr2 := o2.blk hr0 (nv _ (blk_tag hr0))
  rw [World.size_alloc] at hr2
  have ne2 : ∀ x, ve.ownBlock = some x → ¬ vs.ownBlock = some x := fun x hx hv => by
    rcases h.ne with h | h
    · rw [h] at hv; cases hv
    · exact h (by rw [hv, hx])
  have en2 := own_only l1.ended o2 ne2
  have ho : Only (· = w.heap.size) w2 (w2.setCell ⟨w.heap.size, 0, none⟩ (.slice (some ⟨g, 0, none⟩) n c)) := (Only.refl (· = w.heap.size) w2).set ⟨w.heap.size, 0, none⟩ _ (.inl rfl)
  have hlog : IsLog w2 base (.slice (some ⟨g, 0, none⟩) n c) ve (steps ++ [i]) ended := ⟨h2, en2, .inr (fun he => by
      have he' : some g = ve.ownBlock := he
      rcases ha with ha | ha
      · exact ne2 g he'.symm ha.symm
      · have := (h.ended.lt g he'.symm).2
        simp at ha; omega), Nat.le_trans (Nat.le_trans h.hw b1.size) o2.size⟩
  refine ⟨⟨(hb2.set 0 _).ext (fun o ho => ?_), hr2.setOther (a := ⟨w.heap.size, 0, none⟩) (by simp) _, hlog.only ho (fun b hb => .inr ⟨31, by decide, by subst hb; exact blk_tag hb2⟩), Nat.le_refl _, h.hw, ?_⟩, hb2.cell (o := 0) (by omega), hb2.frozen 0⟩
  · rcases o with _ | _ | o
    · simp [pairG, upd]
    · simp [pairG, upd]
    · omega
  · exact ((((Only.refl (LF base w) w).alloc _).alloc _).trans' o2 (fun b hb => .inl ⟨(h.steps.lt b hb).1, own_tag h.steps hb⟩)).set _ _ (.inr (Nat.le_refl _))
/-- The machine's end is written. -/
theorem St1.ends {w w3 : World} {base b n c i : Nat} {vs : Value} {g : Nat} {steps ended : List Int} (h : St1 w w3 base b vs (.slice (some ⟨g, 0, none⟩) n c) steps ended) (hl : ended.length = n) (x : Int) (hge : LF base w g) :
    St1 w (w3.setCell ⟨g, i, none⟩ (.int .i64 x)) base b vs (.slice (some ⟨g, 0, none⟩) n c) steps (ended.set i x) := by
  have tg : Tag w3 g 3 := own_tag h.log.ended rfl
  have n1 := (blk_tag h.box).ne tg (by decide)
  have n2 := (blk_tag h.res).ne tg (by decide)
  have hgb := (h.log.ended.lt g rfl).1
  refine ⟨h.box.setOther (a := ⟨g, i, none⟩) n1 _, h.res.setOther (a := ⟨g, i, none⟩) n2 _, ⟨?_, h.log.ended.stored hl i x, h.log.ne, by simpa using h.log.hw⟩, h.hb, h.hw, h.only.set _ _ (.inl hge)⟩
  refine own_only h.log.steps ((Only.refl (· = g) w3).set ⟨g, i, none⟩ _ (.inl rfl)) (fun y hy e => ?_)
  rcases h.log.ne with h1 | h1
  · rw [h1] at hy; cases hy
  · exact h1 (by rw [hy, e]; rfl)
/-- The result is laid. -/
theorem St1.lay {w w3 : World} {base b : Nat} {vs ve : Value} {steps ended : List Int} (h : St1 w w3 base b vs ve steps ended) :
    IsLog ((w3.setCell ⟨b + 1, 0, none⟩ vs).setCell ⟨b + 1, 1, none⟩ ve) base vs ve steps ended ∧ Only (LF base w) w ((w3.setCell ⟨b + 1, 0, none⟩ vs).setCell ⟨b + 1, 1, none⟩ ve) := by
  have ho : Only (· = b + 1) w3 ((w3.setCell ⟨b + 1, 0, none⟩ vs).setCell ⟨b + 1, 1, none⟩ ve) := ((Only.refl (· = b + 1) w3).set ⟨b + 1, 0, none⟩ vs (.inl rfl)).set ⟨b + 1, 1, none⟩ ve (.inl rfl)
  have := h.hb
  exact ⟨h.log.only ho (fun x hx => .inr ⟨31, by decide, by subst hx; exact blk_tag h.res⟩), (h.only.set ⟨b + 1, 0, none⟩ _ (.inr (by simp; omega))).set ⟨b + 1, 1, none⟩ _ (.inr (by simp; omega))⟩
theorem pair0 (a b : Value) : pairG a b 0 = a := rfl
theorem pair1 (a b : Value) : pairG a b 1 = b := rfl
theorem lay_cells {w3 : World} {b : Nat} {vs ve : Value} {g : Nat → Value} (h : Blk w3 b 31 2 g) : ((w3.setCell ⟨b, 0, none⟩ vs).setCell ⟨b, 1, none⟩ ve).cell? ⟨b, 0, none⟩ = some vs ∧ ((w3.setCell ⟨b, 0, none⟩ vs).setCell ⟨b, 1, none⟩ ve).cell? ⟨b, 1, none⟩ = some ve := by
  have BM := (h.set 0 vs).set 1 ve
  have m0 := BM.cell (o := 0) (by omega)
  have m1 := BM.cell (o := 1) (by omega)
  rw [upd_other _ _ (by omega), upd_same] at m0
  rw [upd_same] at m1
  exact ⟨m0, m1⟩
set_option maxRecDepth 100000 in
set_option maxHeartbeats 2000000 in
theorem rrstep_any (w : World) (base : Nat) (vs ve : Value) (s : X) (nd : Nat → Nat) (i m ns cs Bz : Nat) (As : Option Addr) (zs : List Int) (h : IsLog w base vs ve s.steps s.ended) (hz : Hid (IntsAt .i64 w Bz As zs)) (hBz : Bz ≤ base) (hl : zs.length = ns) (hns : ns ≤ 1000) (hi : i < ns)
    (hle : s.ended.length = ns) (hls : s.steps.length ≤ 100000) (hnd : nd i = need (zs.getD i 0)) (hm : m = nd i - s.steps.count (i : Int)) (hlt : s.steps.count (i : Int) < nd i) :
    Calls Try.prog 36 #[.agg #[vs, ve], .slice As ns cs, .int .i64 (i : Int)] w fun e w' => ∃ vs', e = .returned (.agg #[vs', ve]) ∧ Hid (IsLog w' base vs' ve (s.go i m).steps (s.go i m).ended ∧ Only (LF base w) w w') := by
  obtain ⟨i0, hi', hz0, hz1, hz2⟩ := info_parts infoInt
  have HI := Lib.hid hi'
  have HZ0 := Lib.hid hz0
  have HZ1 := Lib.hid hz1
  have HZ2 := Lib.hid hz2
  have hel : 0 < s.ended.length := by omega
  obtain ⟨ge, ce, hve, _, _⟩ := own_addr h.ended hel
  obtain ⟨A0, c0, hvs, _⟩ := h.steps.form
  rw [hle] at hve
  subst hve hvs
  have H := Lib.hid h
  have HLE := Lib.hid hle
  have HL := Lib.hid hl
  have HM := Lib.hid hm
  have HND := Lib.hid hnd
  have hi1 : (i : Int) < (ns : Int) := by omega
  have hi0 : (0 : Int) ≤ (i : Int) := by omega
  have hns63 : ns ≤ 9223372036854775807 := by omega
  obtain ⟨adz, haz, hzb, hzc⟩ := hz.out i (by omega)
  subst haz
  obtain ⟨z, hzz⟩ : ∃ z, zs.getD i 0 = z := ⟨_, rfl⟩
  rw [hzz] at hzc hnd
  have HZC := Lib.hid hzc
  have HZB : Hid (adz.block < base) := Lib.hid (by omega)
  rw [hnd] at hlt
  have HDZ := Lib.hid hnd
  have hown2 : Hid (OwnInts .i64 3 ((w.alloc (.cells #[.slice A0 s.steps.length c0, .slice (some ⟨ge, 0, none⟩) ns ce] 31)).alloc (.cells #[.slice none 0 0, .slice none 0 0] 31)) base (.slice A0 s.steps.length c0) s.steps) := Lib.hid ((h.steps.alloc _).alloc _)
  have hbw := h.hw
  have hIA : Hid (IntsAt .i64 (((w.alloc (.cells #[.slice A0 s.steps.length c0, .slice (some ⟨ge, 0, none⟩) ns ce] 31)).alloc (.cells #[.slice none 0 0, .slice none 0 0] 31)).alloc (.cells #[.int .i64 (i : Int)] 3)) (w.heap.size + 3) (some ⟨w.heap.size + 1 + 1, 0, none⟩) [(i : Int)]) := Lib.hid (by
    have := IntsAt.new .i64 ((w.alloc (.cells #[.slice A0 s.steps.length c0, .slice (some ⟨ge, 0, none⟩) ns ce] 31)).alloc (.cells #[.slice none 0 0, .slice none 0 0] 31)) 3 (0, 0) [(i : Int)]
    simpa using this)
  have c0a := ((newPair w (.slice A0 s.steps.length c0) (.slice (some ⟨ge, 0, none⟩) ns ce) 31).alloc (.cells #[.slice none 0 0, .slice none 0 0] 31)).cell (o := 0) (by omega)
  rw [pair0] at c0a
  have hcd : (s.steps.count (i : Int) + 1 = need z) ↔ m ≤ 1 := by omega
  clear h hle hl hi' hz0 hz1 hz2 hzc hzb hm hel hzz hnd hlt
  go_enter Try.func36, Try.ntmps36
  go_wp2_with (first
    | (at_builtin; go_must (refine wpList_app (by simp [Region.wanted, yielded]) (.tmp 8) (.tmp 10) 23 rfl (v := .slice A0 s.steps.length c0) (B := w.heap.size + 3) (c := 1) (A := some ⟨w.heap.size + 1 + 1, 0, none⟩) (zs := [(i : Int)]) Try.underlying23 HI.out HZ0.out HZ1.out HZ2.out rfl rfl (hown2.out.alloc _) rfl hIA.out rfl (by simp [maxLen]; omega) (by omega) (by simp; omega) ?_); intro v2 w2 ho2 hg2 ha2; obtain ⟨g2, cc2, hv2, hgb2, hgs2⟩ := own_addr ho2 (by simp); have hv3 : v2 = .slice (some ⟨g2, 0, none⟩) (s.steps.length + 1) cc2 := hv2.trans (by simp); subst hv3; obtain ⟨st, hz2, hf2⟩ := St1.of H.out ho2 hg2 ha2; have ST := Lib.hid st; clear st; clear hv2 ho2 hg2 ha2))
  obtain ⟨b, hb⟩ : ∃ b, w.heap.size = b := ⟨_, rfl⟩
  rw [hb] at ST hz2 hf2 ⊢
  obtain ⟨w3, hw3⟩ : ∃ w3, w2.setCell ⟨b, 0, none⟩ (.slice (some ⟨g2, 0, none⟩) (s.steps.length + 1) cc2) = w3 := ⟨_, rfl⟩
  rw [hw3] at ST ⊢
  clear hw3 hz2 hf2 hIA hown2 c0a
  have CELLS : Hid (∀ W, Below w3.heap.size w3 W → W.cell? ⟨b, 0, none⟩ = some (.slice (some ⟨g2, 0, none⟩) (s.steps.length + 1) cc2) ∧ W.cell? ⟨b, 1, none⟩ = some (.slice (some ⟨ge, 0, none⟩) ns ce) ∧ W.cell? (adz.add i) = some (.int .i64 z)) := Lib.hid fun W hW => by
    have st := ST.out.below hW
    refine ⟨st.box.cell (o := 0) (by omega), st.box.cell (o := 1) (by omega), ?_⟩
    exact (st.bel.cell (p := adz.add i) (by rw [add_block]; exact HZB.out)).trans HZC.out
  obtain ⟨nc, hnc⟩ : ∃ nc, s.steps.count (i : Int) = nc := ⟨_, rfl⟩
  have HDONE : Hid (∀ W, Below w3.heap.size w3 W → Calls Try.prog 48 #[.agg #[.slice (some ⟨g2, 0, none⟩) (s.steps.length + 1) cc2, .slice (some ⟨ge, 0, none⟩) ns ce], .int .i64 (i : Int)] W fun e w' => e = .returned (.int .i64 ((nc : Int) + 1)) ∧ Hid (Below w3.heap.size w3 w')) := Lib.hid fun W hW => by
    have st := ST.out.below hW
    obtain ⟨A9, c9, e9, _, _, _, hi9⟩ := st.log.steps.form
    have e9' : A9 = some ⟨g2, 0, none⟩ := by injection e9 with e9; exact e9.symm
    subst e9'
    refine (done_any W _ _ (s.steps.length + 1) cc2 W.heap.size ns ce (s.steps ++ [(i : Int)]) (i : Int) (by omega) (by simp) (Lib.hid hi9) (Nat.le_refl _)).mono ?_
    rintro e w' ⟨rfl, h1⟩
    refine ⟨ret_int ?_, Lib.hid (hW.trans (h1.out.mono hW.size))⟩
    rw [List.count_append, hnc]
    simp
  have hncl : nc ≤ 100000 := by rw [← hnc]; exact Nat.le_trans List.count_le_length hls
  rw [hnc] at hcd
  have HP : Hid (Below w3.heap.size w3 w3) := Lib.hid (Below.refl _ _)
  obtain ⟨cb0, cb1, cbz⟩ := CELLS.out w3 HP.out
  have HBB := Lib.hid hb
  clear hnc hb
  by_cases h1 : m ≤ 1
  · have hbt : (((nc : Int) + 1) == (need z : Int)) = true := by
      have := hcd.2 h1
      simp; omega
    have HM1 := Lib.hid h1
    clear hcd h1
    go_region_held3 (fun w' => w'.cell? ⟨b, 0, none⟩ = some (.slice (some ⟨g2, 0, none⟩) (s.steps.length + 1) cc2) ∧ w'.cell? ⟨b, 1, none⟩ = some (.slice (some ⟨ge, 0, none⟩) ns ce) ∧ w'.cell? (adz.add i) = some (.int .i64 z)) (first | assumption | (refine ⟨?_, ?_, ?_⟩ <;> assumption) | exact CELLS.out _ HP.out) (first
      | (go_at_call 48; go_must (refine (HDONE.out _ (by first | exact HP.out | exact HP.out.drew)).mono ?_); rintro e w2 ⟨rfl, HP⟩)
      | (go_at_call 49; go_must (refine (need_any z _).mono ?_); rintro e w2 ⟨rfl, rfl⟩))
    have S4 := ST.out.below HP.out
    obtain ⟨x, cx, zx⟩ : ∃ x, w2.cell? ⟨ge, i, none⟩ = some (.int .i64 x) ∧ w2.frozen? ⟨ge, i, none⟩ = false := ⟨_, S4.log.ended.cell i (by rw [HLE.out]; exact hi)⟩
    have S5 := S4.ends (i := i) HLE.out (s.steps.length : Int) ⟨(H.out.ended.lt ge rfl).1, own_tag H.out.ended rfl⟩
    have a0 := S4.box.cell (o := 0) (by omega)
    have a1 := S4.box.cell (o := 1) (by omega)
    rw [pair0] at a0
    rw [pair1] at a1
    have hne := (blk_tag S4.box).ne (own_tag S4.log.ended rfl) (by decide)
    obtain ⟨l0, l1⟩ := lay_cells (vs := .slice (some ⟨g2, 0, none⟩) (s.steps.length + 1) cc2) (ve := .slice (some ⟨ge, 0, none⟩) ns ce) S5.res
    have r0 := S5.res.cell (o := 0) (by omega)
    have r1 := S5.res.cell (o := 1) (by omega)
    have q0 := S5.res.frozen 0
    have q1 := S5.res.frozen 1
    have b0 := S5.box.cell (o := 0) (by omega)
    have b1 := S5.box.cell (o := 1) (by omega)
    rw [pair0] at r0 b0
    rw [pair1] at r1 b1
    have HF := Lib.hid S5.lay
    clear S5
    clear S4 hne
    go_wp2
    refine bodyPost_ret (v := .agg #[.slice (some ⟨g2, 0, none⟩) (s.steps.length + 1) cc2, .slice (some ⟨ge, 0, none⟩) ns ce]) (by simp [results, Try.results36, go_sem, l0, l1]) rfl ⟨_, rfl, Lib.hid ?_⟩
    rw [show (s.go i m).ended = s.ended.set i (s.steps.length : Int) from if_pos HM1.out]
    exact HF.out
  · have hbt : (((nc : Int) + 1) == (need z : Int)) = false := by
      have : ¬ (nc + 1 = need z) := fun h => h1 (hcd.1 h)
      simp; omega
    have HM1 := Lib.hid h1
    clear hcd h1
    go_region_held3 (fun w' => w'.cell? ⟨b, 0, none⟩ = some (.slice (some ⟨g2, 0, none⟩) (s.steps.length + 1) cc2) ∧ w'.cell? ⟨b, 1, none⟩ = some (.slice (some ⟨ge, 0, none⟩) ns ce) ∧ w'.cell? (adz.add i) = some (.int .i64 z)) (first | assumption | (refine ⟨?_, ?_, ?_⟩ <;> assumption) | exact CELLS.out _ HP.out) (first
      | (go_at_call 48; go_must (refine (HDONE.out _ (by first | exact HP.out | exact HP.out.drew)).mono ?_); rintro e w2 ⟨rfl, HP⟩)
      | (go_at_call 49; go_must (refine (need_any z _).mono ?_); rintro e w2 ⟨rfl, rfl⟩))
    have S5 := ST.out.below HP.out
    obtain ⟨l0, l1⟩ := lay_cells (vs := .slice (some ⟨g2, 0, none⟩) (s.steps.length + 1) cc2) (ve := .slice (some ⟨ge, 0, none⟩) ns ce) S5.res
    have r0 := S5.res.cell (o := 0) (by omega)
    have r1 := S5.res.cell (o := 1) (by omega)
    have q0 := S5.res.frozen 0
    have q1 := S5.res.frozen 1
    have b0 := S5.box.cell (o := 0) (by omega)
    have b1 := S5.box.cell (o := 1) (by omega)
    rw [pair0] at r0 b0
    rw [pair1] at r1 b1
    have HF := Lib.hid S5.lay
    clear S5
    go_wp2
    refine bodyPost_ret (v := .agg #[.slice (some ⟨g2, 0, none⟩) (s.steps.length + 1) cc2, .slice (some ⟨ge, 0, none⟩) ns ce]) (by simp [results, Try.results36, go_sem, l0, l1]) rfl ⟨_, rfl, Lib.hid ?_⟩
    rw [show (s.go i m).ended = s.ended from if_neg HM1.out]
    exact HF.out
end Go.Proofs.Ythnaogfcffmphaa.Sched
