/-
  SCHED, THE REFERENCE: begin, Run.
-/
import Derived.Test.YthnaogfcffmphaaSRstep
set_option linter.unusedVariables false
set_option linter.unusedSimpArgs false
namespace Go.Proofs.Ythnaogfcffmphaa.Sched
open Go.ChangeShapes Go.WideShapes Go.ChangeAt Go.RowKit Go.Proofs.Ythnaogfcffmphaa.Mem Go.Proofs.Ythnaogfcffmphaa.Law Go.Proofs.Ythnaogfcffmphaa.Args Go.Proofs.Ythnaogfcffmphaa.Own
def ndOf (zs : List Int) : Nat → Nat := fun i => need (zs.getD i 0)
theorem refOk_init (n : Nat) (zs : List Int) : (X.init n (leftsOf zs)).RefOk (ndOf zs) :=
  ⟨fun i _ => by simp [X.init, leftsOf, ndOf], fun i _ _ => by have := need_pos (zs.getD i 0); simp [X.init, ndOf] at this ⊢; omega⟩
theorem refOk_pick {s : X} {nd : Nat → Nat} (h : s.RefOk nd) (hl : s.ended.length = s.n) (p : Int) : (s.pick p).RefOk nd := by
  unfold X.pick
  split
  · rename_i h0
    exact h.step hl (Nat.mod_lt _ h0.2)
  · exact h
theorem refOk_run {s : X} {nd : Nat → Nat} {M : Nat} (h : s.RefOk nd) (ok : s.Ok M) (ps : List Int) : (s.run ps).RefOk nd := by
  unfold X.run
  induction ps generalizing s M with
  | nil => exact h
  | cons p ps ih => rw [List.foldl_cons]; exact ih (refOk_pick h ok.len p) (ok.pick p)
theorem leftsOf_small {zs : List Int} (hw : ∀ z ∈ zs, (Lit.int .i64 z).wf = true) : ∀ i m, leftsOf zs i = some m → m ≤ 9223372036854775807 := fun i m h => by
  have h1 : need (zs.getD i 0) = m := by simpa [leftsOf] using h
  by_cases hi : i < zs.length
  · have := (wf_i64 (wf_at hw hi)).2
    have h2 := need_max (zs.getD i 0)
    omega
  · have : zs.getD i 0 = 0 := by simp [List.getD, hi]
    rw [this] at h1
    have : need 0 = 1 := need_one (by omega)
    omega
structure RBeg (w wr : World) (b : Nat) (ve : Value) (k : Nat) : Prop where
  box : Blk wr b 31 2 (pairG (.slice none 0 0) ve)
  res : Blk wr w.heap.size 31 2 (pairG (.slice none 0 0) (.slice none 0 0))
  ended : OwnInts .i64 3 wr w.heap.size ve (List.replicate k (-1))
  hb : w.heap.size < b
  bel : Below w.heap.size w wr
theorem RBeg.next {w wr w2 : World} {b k g c n : Nat} {ve : Value} {ob : Obj} (h : RBeg w wr b ve k) (h2 : OwnInts .i64 3 w2 w.heap.size (.slice (some ⟨g, 0, none⟩) n c) (List.replicate k (-1) ++ [-1])) (hg : (wr.alloc ob).grownBy w2 ve.ownBlock) :
    RBeg w (w2.setCell ⟨b, 1, none⟩ (.slice (some ⟨g, 0, none⟩) n c)) b (.slice (some ⟨g, 0, none⟩) n c) (k + 1) ∧ w2.cell? ⟨b, 1, none⟩ = some ve ∧ w2.frozen? ⟨b, 1, none⟩ = false := by
  have o2 : Only (fun b => ve.ownBlock = some b) wr w2 := ((Only.refl _ wr).alloc ob).trans (Only.ofGrown hg (fun k hk => .inl hk))
  have nv : ∀ b, Tag wr b 31 → ¬ ve.ownBlock = some b := fun b ht hb => ht.ne (own_tag h.ended hb) (by decide) rfl
  have hb2 := o2.blk h.box (nv _ (blk_tag h.box))
  have hr2 := o2.blk h.res (nv _ (blk_tag h.res))
  have ho : Only (· = b) w2 (w2.setCell ⟨b, 1, none⟩ (.slice (some ⟨g, 0, none⟩) n c)) := (Only.refl (· = b) w2).set ⟨b, 1, none⟩ _ (.inl rfl)
  have hbw : b ≠ w.heap.size := by have := h.hb; omega
  refine ⟨⟨(hb2.set 1 _).ext (fun o ho => ?_), hr2.setOther (a := ⟨b, 1, none⟩) (Ne.symm hbw) _, ?_, h.hb, ?_⟩, hb2.cell (o := 1) (by omega), hb2.frozen 1⟩
  · rcases o with _ | _ | o
    · simp [pairG, upd]
    · simp [pairG, upd]
    · omega
  · rw [List.replicate_succ']
    exact own_only h2 ho (fun x hx e => (own_tag h2 hx).ne (by subst e; exact blk_tag hb2) (by decide) rfl)
  · exact (h.bel.trans (o2.below h.bel.size fun x hx => (h.ended.lt x hx).1)).setCell (p := ⟨b, 1, none⟩) (Nat.le_of_lt h.hb) _
set_option maxRecDepth 100000 in
set_option maxHeartbeats 1000000 in
theorem rbegin_any (w : World) (As : Option Addr) (ns cs : Nat) (hns : ns ≤ 1000) :
    Calls Try.prog 35 #[.slice As ns cs] w fun e w' => ∃ A c, e = .returned (.agg #[.slice none 0 0, .slice A ns c]) ∧ Hid (IsLog w' w.heap.size (.slice none 0 0) (.slice A ns c) [] (List.replicate ns (-1)) ∧ Below w.heap.size w w') := by
  obtain ⟨i0, hi', hz0, hz1, hz2⟩ := info_parts infoInt
  have HI := Lib.hid hi'
  have HZ0 := Lib.hid hz0
  have HZ1 := Lib.hid hz1
  have HZ2 := Lib.hid hz2
  have hns63 : ns ≤ 9223372036854775807 := by omega
  have HB0 : Hid (RBeg w ((w.alloc (.cells #[.slice none 0 0, .slice none 0 0] 31)).alloc (.cells #[.slice none 0 0, .slice none 0 0] 31)) (w.heap.size + 1) (.slice none 0 0) 0) := Lib.hid ⟨by
      have := newPair (w.alloc (.cells #[.slice none 0 0, .slice none 0 0] 31)) (.slice none 0 0) (.slice none 0 0) 31
      rw [World.size_alloc] at this; exact this, (newPair w _ _ _).alloc _, OwnInts.nil_ _ _ _ _, by omega, ((Below.refl _ w).alloc (Nat.le_refl _) _).alloc (by simp) _⟩
  clear hi' hz0 hz1 hz2
  go_enter Try.func35, Try.ntmps35
  go_wp2
  obtain ⟨b, hb⟩ : ∃ b, w.heap.size + 1 = b := ⟨_, rfl⟩
  rw [hb] at HB0 ⊢
  clear hb
  go_loopw [4] (fun i wr => ∃ k : Nat, k ≤ ns ∧ i = .int .i64 k ∧ Hid (∃ ve, RBeg w wr b ve k)) (fun i _ => ns - (intOf i).toNat)
  case atStart => exact ⟨0, by omega, rfl, Lib.hid ⟨_, HB0.out⟩⟩
  case round =>
    obtain ⟨k, hk, rfl, HO⟩ := hrel
    obtain ⟨ve, hR⟩ := HO.out
    obtain ⟨A, c, hve, _⟩ := hR.ended.form
    rw [List.length_replicate] at hve
    subst hve
    have HR := Lib.hid hR
    clear HO hR
    have c1 : wr.cell? ⟨b, 1, none⟩ = some (.slice A k c) := HR.out.box.cell (o := 1) (by omega)
    by_cases hkn : k < ns
    · have hki : (k : Int) < (ns : Int) := by omega
      go_wp2_with (at_builtin; go_must (refine wpList_app (by simp [Region.wanted, yielded]) (.tmp 12) (.tmp 13) 23 rfl (v := .slice A k c) (B := wr.heap.size + 1) (c := 1) (A := some ⟨wr.heap.size, 0, none⟩) (zs := [-1]) Try.underlying23 HI.out HZ0.out HZ1.out HZ2.out rfl rfl (HR.out.ended.alloc _) rfl (IntsAt.new .i64 wr 3 (0, 0) [-1]) rfl (by simp [maxLen]; omega) (by simp; omega) (Nat.le_trans HR.out.bel.size (by simp)) ?_); intro v2 w2 ho2 hg2 ha2; obtain ⟨g2, cc2, hv2, hgb2, hgs2⟩ := own_addr ho2 (by simp); have hv3 : v2 = .slice (some ⟨g2, 0, none⟩) (k + 1) cc2 := hv2.trans (by simp); subst hv3; obtain ⟨st, hz2, hf2⟩ := HR.out.next ho2 hg2; have ST := Lib.hid st; clear st hv2 ho2 hg2 ha2)
      go_roundw
      case rel => exact ⟨k + 1, by omega, by go_num, Lib.hid ⟨_, ST.out⟩⟩
      case measure => simp [intOf]; omega
    · have hk2 : k = ns := by omega
      subst hk2
      have c0 := HR.out.box.cell (o := 0) (by omega)
      rw [pair0] at c0
      have r0 := HR.out.res.cell (o := 0) (by omega)
      have r1 := HR.out.res.cell (o := 1) (by omega)
      have q0 := HR.out.res.frozen 0
      have q1 := HR.out.res.frozen 1
      obtain ⟨l0, l1⟩ := lay_cells (vs := .slice none 0 0) (ve := .slice A k c) HR.out.res
      have HF : Hid (IsLog ((wr.setCell ⟨w.heap.size, 0, none⟩ (.slice none 0 0)).setCell ⟨w.heap.size, 1, none⟩ (.slice A k c)) w.heap.size (.slice none 0 0) (.slice A k c) [] (List.replicate k (-1)) ∧ Below w.heap.size w ((wr.setCell ⟨w.heap.size, 0, none⟩ (.slice none 0 0)).setCell ⟨w.heap.size, 1, none⟩ (.slice A k c))) := Lib.hid (by
        have ho : Only (· = w.heap.size) wr ((wr.setCell ⟨w.heap.size, 0, none⟩ (.slice none 0 0)).setCell ⟨w.heap.size, 1, none⟩ (.slice A k c)) := ((Only.refl (· = w.heap.size) wr).set ⟨w.heap.size, 0, none⟩ _ (.inl rfl)).set ⟨w.heap.size, 1, none⟩ _ (.inl rfl)
        refine ⟨⟨OwnInts.nil_ _ _ _ _, own_only HR.out.ended ho (fun x hx e => (own_tag HR.out.ended hx).ne (by subst e; exact blk_tag HR.out.res) (by decide) rfl), .inl rfl, Nat.le_trans HR.out.bel.size ho.size⟩, ?_⟩
        exact (HR.out.bel.setCell (p := ⟨w.heap.size, 0, none⟩) (Nat.le_refl _) _).setCell (p := ⟨w.heap.size, 1, none⟩) (Nat.le_refl _) _)
      go_wp2
      exact bodyPost_ret (v := .agg #[.slice none 0 0, .slice A k c]) (by simp [results, Try.results35, go_sem, l0, l1]) rfl ⟨A, c, rfl, HF⟩
structure RRun (w wr : World) (b : Nat) (vs ve : Value) (s : X) : Prop where
  box : Blk wr b 31 2 (pairG vs ve)
  res : Blk wr w.heap.size 31 2 (pairG (.slice none 0 0) (.slice none 0 0))
  log : IsLog wr w.heap.size vs ve s.steps s.ended
  hb : w.heap.size < b
  bel : Below w.heap.size w wr
theorem RRun.step {w wr w2 : World} {b : Nat} {vs ve vs' : Value} {s s' : X} (h : RRun w wr b vs ve s) (h2 : IsLog w2 w.heap.size vs' ve s'.steps s'.ended) (ho : Only (LF w.heap.size wr) wr w2) :
    RRun w ((w2.setCell ⟨b, 0, none⟩ vs').setCell ⟨b, 1, none⟩ ve) b vs' ve s' ∧ Blk w2 b 31 2 (pairG vs ve) := by
  have nl : ∀ {x}, Tag wr x 31 → ¬ LF w.heap.size wr x := fun ht hx => ht.ne hx.2 (by decide) rfl
  have hb2 := ho.blk h.box (nl (blk_tag h.box))
  have hr2 := ho.blk h.res (nl (blk_tag h.res))
  have hbw : b ≠ w.heap.size := by have := h.hb; omega
  have ho3 : Only (· = b) w2 ((w2.setCell ⟨b, 0, none⟩ vs').setCell ⟨b, 1, none⟩ ve) := ((Only.refl (· = b) w2).set ⟨b, 0, none⟩ _ (.inl rfl)).set ⟨b, 1, none⟩ _ (.inl rfl)
  refine ⟨⟨((hb2.set 0 _).set 1 _).ext (fun o ho => ?_), ho3.blk hr2 hbw.symm, h2.only ho3 (fun x hx => .inr ⟨31, by decide, by subst hx; exact blk_tag hb2⟩), h.hb, ?_⟩, hb2⟩
  · rcases o with _ | _ | o
    · simp [pairG, upd]
    · simp [pairG, upd]
    · omega
  · exact ((h.bel.trans (ho.below h.bel.size (fun x hx => hx.1))).setCell (p := ⟨b, 0, none⟩) (Nat.le_of_lt h.hb) _).setCell (p := ⟨b, 1, none⟩) (Nat.le_of_lt h.hb) _
set_option maxRecDepth 100000 in
set_option maxHeartbeats 2000000 in
theorem rrun_any (w : World) (As Ap : Option Addr) (ns cs Bz np cp Bp : Nat) (zs ps : List Int) (hns : ns ≤ 1000) (hnp : np ≤ 1000) (hl : zs.length = ns) (hlp : ps.length = np) (hz : Hid (IntsAt .i64 w Bz As zs)) (hBz : Bz ≤ w.heap.size) (hp : Hid (IntsAt .i64 w Bp Ap ps)) (hBp : Bp ≤ w.heap.size)
    (hw63 : Hid (∀ z ∈ ps, (Lit.int .i64 z).wf = true)) (hlf : Hid (∀ i m, leftsOf zs i = some m → m ≤ 9223372036854775807)) :
    Calls Try.prog 15 #[.slice As ns cs, .slice Ap np cp] w fun e w' => ∃ vs ve, e = .returned (.agg #[vs, ve]) ∧ Hid (IsLog w' w.heap.size vs ve ((X.init ns (leftsOf zs)).run ps).steps ((X.init ns (leftsOf zs)).run ps).ended ∧ Below w.heap.size w w') := by
  have HL := Lib.hid hl
  have HLP := Lib.hid hlp
  have HOK := Lib.hid (X.Ok.init (n := ns) hlf.out)
  clear hl hlp
  have R0 := newPair w (.slice none 0 0) (.slice none 0 0) 31
  have HB1 : Hid (Below w.heap.size w (w.alloc (.cells #[.slice none 0 0, .slice none 0 0] 31))) := Lib.hid ((Below.refl _ w).alloc (Nat.le_refl _) _)
  obtain ⟨wa, hwa⟩ : ∃ wa, wa = w.alloc (.cells #[.slice none 0 0, .slice none 0 0] 31) := ⟨_, rfl⟩
  have hws : wa.heap.size = w.heap.size + 1 := by rw [hwa]; simp
  have HWA := Lib.hid hwa
  have HWS := Lib.hid hws
  rw [← hwa] at R0 HB1
  have HR0 := Lib.hid R0
  have hnp63 : np ≤ 9223372036854775807 := by omega
  clear hwa hws R0
  go_enter Try.func15, Try.ntmps15
  go_wp2_with (go_at_call 35; refine (rbegin_any _ As ns cs hns).mono ?_; rintro e wb ⟨A0, c0, rfl, HBG⟩; rw [← HWA.out] at HBG)
  have HRB : Hid (RRun w (wb.alloc (.cells #[.slice none 0 0, .slice A0 ns c0] 31)) wb.heap.size (.slice none 0 0) (.slice A0 ns c0) ((X.init ns (leftsOf zs)).run (ps.take 0))) := Lib.hid (by
    have b1 : Below w.heap.size w wb := HB1.out.trans (HBG.out.2.mono HB1.out.size)
    have lg := (HBG.out.1.below ((Below.refl _ wb).alloc (Nat.le_refl _) (.cells #[.slice none 0 0, .slice A0 ns c0] 31)))
    refine ⟨newPair wb _ _ _, (HR0.out.below HBG.out.2 HR0.out.lt).alloc _, ⟨OwnInts.nil_ _ _ _ _, own_base lg.ended HB1.out.size, .inl rfl, Nat.le_trans b1.size (by simp)⟩, ?_, b1.alloc b1.size _⟩
    have := HBG.out.2.size
    have := HWS.out
    omega)
  obtain ⟨b, hb⟩ : ∃ b, wb.heap.size = b := ⟨_, rfl⟩
  rw [hb] at HRB ⊢
  obtain ⟨w0, hw0⟩ : ∃ w0, wb.alloc (.cells #[.slice none 0 0, .slice A0 ns c0] 31) = w0 := ⟨_, rfl⟩
  rw [hw0] at HRB ⊢
  clear hb hw0 HBG HR0
  have hns63 : ns ≤ 9223372036854775807 := by omega
  go_loopw [6] (fun i wr => ∃ k : Nat, k ≤ np ∧ i = .int .i64 k ∧ Hid (∃ vs ve, RRun w wr b vs ve ((X.init ns (leftsOf zs)).run (ps.take k)))) (fun i _ => np - (intOf i).toNat)
  case atStart => exact ⟨0, by omega, rfl, Lib.hid ⟨_, _, HRB.out⟩⟩
  case round =>
    obtain ⟨k, hk, rfl, HO⟩ := hrel
    obtain ⟨vs, ve, hR⟩ := HO.out
    have HR := Lib.hid hR
    clear HO hR
    have OKK := Lib.hid (HOK.out.run (ps.take k))
    have RFK := Lib.hid (refOk_run (refOk_init ns zs) HOK.out (ps.take k))
    obtain ⟨s, hs⟩ : ∃ s, (X.init ns (leftsOf zs)).run (ps.take k) = s := ⟨_, rfl⟩
    have hsn : s.n = ns := by rw [← hs]; exact X.run_n _ _
    have HS := Lib.hid hs
    rw [hs] at HR OKK RFK
    have HLE : Hid (s.ended.length = ns) := Lib.hid (OKK.out.len.trans hsn)
    have HSN := Lib.hid hsn
    have hst : s.steps.length ≤ np := by
      have := OKK.out.steps
      rw [List.length_take, HLP.out] at this; omega
    clear hs hsn
    obtain ⟨A1, c1, hv1, _⟩ := HR.out.log.steps.form
    obtain ⟨A2, c2, hv2, _⟩ := HR.out.log.ended.form
    rw [HLE.out] at hv2
    subst hv1 hv2
    have b0 := HR.out.box.cell (o := 0) (by omega)
    have b1 := HR.out.box.cell (o := 1) (by omega)
    rw [pair0] at b0
    rw [pair1] at b1
    have fin : ((X.init ns (leftsOf zs)).run ps = s) → Hid (IsLog ((wr.setCell ⟨w.heap.size, 0, none⟩ (.slice A1 s.steps.length c1)).setCell ⟨w.heap.size, 1, none⟩ (.slice A2 ns c2)) w.heap.size (.slice A1 s.steps.length c1) (.slice A2 ns c2) ((X.init ns (leftsOf zs)).run ps).steps ((X.init ns (leftsOf zs)).run ps).ended ∧ Below w.heap.size w ((wr.setCell ⟨w.heap.size, 0, none⟩ (.slice A1 s.steps.length c1)).setCell ⟨w.heap.size, 1, none⟩ (.slice A2 ns c2))) := fun e => Lib.hid (by
      have ho : Only (· = w.heap.size) wr ((wr.setCell ⟨w.heap.size, 0, none⟩ (.slice A1 s.steps.length c1)).setCell ⟨w.heap.size, 1, none⟩ (.slice A2 ns c2)) := ((Only.refl (· = w.heap.size) wr).set ⟨w.heap.size, 0, none⟩ _ (.inl rfl)).set ⟨w.heap.size, 1, none⟩ _ (.inl rfl)
      rw [e]
      exact ⟨HR.out.log.only ho (fun x hx => .inr ⟨31, by decide, by subst hx; exact blk_tag HR.out.res⟩), (HR.out.bel.setCell (p := ⟨w.heap.size, 0, none⟩) (Nat.le_refl _) _).setCell (p := ⟨w.heap.size, 1, none⟩) (Nat.le_refl _) _⟩)
    have FIN := Lib.hid fin
    clear fin
    have r0 := HR.out.res.cell (o := 0) (by omega)
    have r1 := HR.out.res.cell (o := 1) (by omega)
    have q0 := HR.out.res.frozen 0
    have q1 := HR.out.res.frozen 1
    obtain ⟨l0, l1⟩ := lay_cells (vs := .slice A1 s.steps.length c1) (ve := .slice A2 ns c2) HR.out.res
    by_cases hkn : k < np
    · have hki : (k : Int) < (np : Int) := by omega
      have hk0 : (0 : Int) ≤ (k : Int) := by omega
      have hkl : k < ps.length := by have := HLP.out; omega
      rcases Nat.eq_zero_or_pos ns with h0 | h0
      · have HE : Hid ((X.init ns (leftsOf zs)).run ps = s) := Lib.hid (by
          have key : ∀ (qs : List Int) (t : X), t.n = 0 → t.run qs = t := fun qs => by
            induction qs with
            | nil => intro t _; rfl
            | cons q qs ih => intro t ht; unfold X.run at ih ⊢; rw [List.foldl_cons, pick_none (.inr ht)]; exact ih t ht
          have h1 := HS.out
          rw [key _ _ (show (X.init ns (leftsOf zs)).n = 0 from h0)] at h1
          rw [key _ _ (show (X.init ns (leftsOf zs)).n = 0 from h0)]
          exact h1)
        have HF := FIN.out HE.out
        subst h0
        clear hkl
        go_wp2
        exact bodyPost_ret (v := .agg #[.slice A1 s.steps.length c1, .slice A2 0 c2]) (by simp [results, Try.results15, go_sem, l0, l1]) rfl ⟨_, _, rfl, HF⟩
      · have h0i : (0 : Int) < (ns : Int) := by omega
        have HT := Lib.hid (X.run_take (s := X.init ns (leftsOf zs)) hkl)
        rw [HS.out] at HT
        obtain ⟨ad, rfl, hadb, hc0⟩ := hp.out k hkl
        have hc := (HR.out.bel.cell (p := ad.add k) (by rw [add_block]; omega)).trans hc0
        obtain ⟨p, hpp⟩ : ∃ p, ps.getD k 0 = p := ⟨_, rfl⟩
        rw [hpp] at hc HT
        obtain ⟨hp1, hp2⟩ : -9223372036854775808 ≤ p ∧ p ≤ 9223372036854775807 := by
          have := wf_i64 (wf_at hw63.out hkl)
          rwa [hpp] at this
        clear hpp hkl hc0
        by_cases hp0 : 0 ≤ p
        · obtain ⟨q, rfl⟩ := Int.eq_ofNat_of_zero_le hp0
          obtain ⟨i, hi⟩ : ∃ i, q % ns = i := ⟨_, rfl⟩
          have hin : i < ns := by rw [← hi]; exact Nat.mod_lt _ h0
          have hqi : (q : Int) % (ns : Int) = (i : Int) := by rw [← hi]; rfl
          have hqt : (q : Int).tmod (ns : Int) = (i : Int) := by rw [Int.tmod_eq_emod_of_nonneg (by omega)]; exact hqi
          have HP := Lib.hid (pick_step (s := s) rfl HSN.out h0 hi)
          have hii : (i : Int) < (ns : Int) := by omega
          have hi0 : (0 : Int) ≤ (i : Int) := by omega
          have hle0 : 0 < s.ended.length := by rw [HLE.out]; exact h0
          obtain ⟨g2, c2', hv2, _, _⟩ := own_addr HR.out.log.ended hle0
          have hA2 : A2 = some ⟨g2, 0, none⟩ := by injection hv2
          subst hA2
          obtain ⟨cx, _⟩ := HR.out.log.ended.cell i (by rw [HLE.out]; exact hin)
          obtain ⟨x, hx⟩ : ∃ x, s.ended.getD i 0 = x := ⟨_, rfl⟩
          rw [hx] at cx
          have hleft := RFK.out.left i (by rw [HSN.out]; exact hin)
          by_cases hx0 : x < 0
          · have HG := Lib.hid (X.step_go hleft (by rw [hx]; exact hx0))
            have HC : Hid (Calls Try.prog 36 #[.agg #[.slice A1 s.steps.length c1, .slice (some ⟨g2, 0, none⟩) ns c2], .slice As ns cs, .int .i64 (i : Int)] wr fun e w2 => ∃ A3 n3 c3, e = .returned (.agg #[.slice A3 n3 c3, .slice (some ⟨g2, 0, none⟩) ns c2]) ∧
                Hid (RRun w ((w2.setCell ⟨b, 0, none⟩ (.slice A3 n3 c3)).setCell ⟨b, 1, none⟩ (.slice (some ⟨g2, 0, none⟩) ns c2)) b (.slice A3 n3 c3) (.slice (some ⟨g2, 0, none⟩) ns c2) ((X.init ns (leftsOf zs)).run (ps.take (k + 1))) ∧ Blk w2 b 31 2 (pairG (.slice A1 s.steps.length c1) (.slice (some ⟨g2, 0, none⟩) ns c2)))) := Lib.hid (by
              refine (rrstep_any wr w.heap.size _ _ s (ndOf zs) i _ ns cs Bz As zs HR.out.log (Lib.hid (hz.out.below (HR.out.bel.mono hBz))) hBz HL.out hns hin HLE.out (by omega) rfl rfl (RFK.out.more i (by rw [HSN.out]; exact hin) (by rw [hx]; exact hx0))).mono ?_
              rintro e w2 ⟨vs', rfl, h2⟩
              obtain ⟨A3, c3, hv3, _⟩ := h2.out.1.steps.form
              subst hv3
              refine ⟨_, _, _, rfl, Lib.hid ?_⟩
              rw [HT.out, HP.out, HG.out]
              exact HR.out.step h2.out.1 h2.out.2)
            clear hi hx HP HG HT hleft hle0 hv2
            go_wp2_with (go_at_call 36; refine HC.out.mono ?_; rintro e w2 ⟨A3, n3, c3, rfl, H2⟩; have d0 := H2.out.2.cell (o := 0) (by omega); have d1 := H2.out.2.cell (o := 1) (by omega); have f0 := H2.out.2.frozen 0; have f1 := H2.out.2.frozen 1)
            go_roundw
            case rel => exact ⟨k + 1, by omega, by go_num, Lib.hid ⟨_, _, H2.out.1⟩⟩
            case measure => simp [intOf]; omega
          · have HG := Lib.hid (X.step_over hleft (by rw [hx]; omega))
            have HN : Hid (RRun w wr b (.slice A1 s.steps.length c1) (.slice (some ⟨g2, 0, none⟩) ns c2) ((X.init ns (leftsOf zs)).run (ps.take (k + 1)))) := Lib.hid (by rw [HT.out, HP.out, HG.out]; exact HR.out)
            clear hi hx HP HG HT hleft hle0 hv2
            go_wp2
            go_roundw
            case rel => exact ⟨k + 1, by omega, by go_num, Lib.hid ⟨_, _, HN.out⟩⟩
            case measure => simp [intOf]; omega
        · have HP := Lib.hid (pick_none (s := s) (p := p) (.inl (by omega)))
          have HN : Hid (RRun w wr b (.slice A1 s.steps.length c1) (.slice A2 ns c2) ((X.init ns (leftsOf zs)).run (ps.take (k + 1)))) := Lib.hid (by rw [HT.out, HP.out]; exact HR.out)
          clear HP HT
          go_wp2
          go_roundw
          case rel => exact ⟨k + 1, by omega, by go_num, Lib.hid ⟨_, _, HN.out⟩⟩
          case measure => simp [intOf]; omega
    · have hk2 : k = np := by omega
      subst hk2
      have HF := FIN.out (by rw [← HS.out, List.take_of_length_le (Nat.le_of_eq HLP.out)])
      have hd : decide ((k : Int) < (k : Int)) = false := by simp
      go_wp2
      exact bodyPost_ret (v := .agg #[.slice A1 s.steps.length c1, .slice A2 ns c2]) (by simp [results, Try.results15, go_sem, l0, l1]) rfl ⟨_, _, rfl, HF⟩
end Go.Proofs.Ythnaogfcffmphaa.Sched
