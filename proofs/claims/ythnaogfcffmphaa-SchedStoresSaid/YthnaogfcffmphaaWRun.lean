/-
  SCHED: (*run).step with writers.
-/
import Derived.Test.YthnaogfcffmphaaWWalk
set_option linter.unusedVariables false
set_option linter.unusedSimpArgs false
namespace Go.Proofs.Ythnaogfcffmphaa.Sched
open Go.ChangeShapes Go.WideShapes Go.ChangeAt Go.RowKit Go.Proofs.Ythnaogfcffmphaa.Mem Go.Proofs.Ythnaogfcffmphaa.Law Go.Proofs.Ythnaogfcffmphaa.Args Go.Proofs.Ythnaogfcffmphaa.Own Go.Proofs.Ythnaogfcffmphaa.Dev
def machW (B : Nat → Nat) (i : Nat) : Value := .iface 64 (.pointer (some ⟨B i, 0, none⟩))
def MsW (w : World) (A : RA) (n : Nat) : Prop := ∃ g, A.ma = some ⟨g, 0, none⟩ ∧ Blk w g 83 n (machW A.B)
structure IsRunW (w : World) (base : Nat) (A : RA) (Z : WD) (s : X) : Prop where
  run : Blk w A.r 77 4 (runG A s)
  hr : base ≤ A.r
  ms : MsW w A s.n
  wr : Wr w base Z A.B s
  steps : OwnInts .i64 3 w base A.vs s.steps
  ended : OwnInts .i64 3 w base A.ve s.ended
  ne : A.vs.ownBlock = none ∨ A.vs.ownBlock ≠ A.ve.ownBlock
  hw : base ≤ w.heap.size
structure MidW (w w2 : World) (base : Nat) (A : RA) (Z : WD) (s : X) (i m g2 c2 : Nat) : Prop where
  run : Blk w2 A.r 77 4 (runG A s)
  ms : MsW w2 A s.n
  wr : Wr w2 base Z A.B (s.go i m)
  steps : OwnInts .i64 3 w2 base (.slice (some ⟨g2, 0, none⟩) (s.steps.length + 1) c2) (s.steps ++ [(i : Int)])
  ended : OwnInts .i64 3 w2 base A.ve s.ended
  ne : some g2 ≠ A.ve.ownBlock
  only : Only (WF Z base A.B) w w2
theorem nd_int : ¬ devTag (some 3) := by unfold devTag; decide
theorem nd_run : ¬ devTag (some 77) := by unfold devTag; decide
theorem nd_mach : ¬ devTag (some 83) := by unfold devTag; decide
theorem MsW.only {F : Nat → Prop} {w w' : World} {A : RA} {n : Nat} (h : MsW w A n) (ho : Only F w w') (hF : ∀ b, F b → Tag w b 83 → False) : MsW w' A n := by
  obtain ⟨g, hg, hb⟩ := h
  exact ⟨g, hg, ho.blk hb (fun f => hF g f (blk_tag hb))⟩
theorem IsRunW.stepped {w w1 : World} {base : Nat} {A : RA} {Z : WD} {s : X} {i m : Nat} (h : IsRunW w base A Z s) (h1 : Stepped w w1 base Z A.B s i m) :
    Blk w1 A.r 77 4 (runG A s) ∧ OwnInts .i64 3 w1 base A.vs s.steps ∧ OwnInts .i64 3 w1 base A.ve s.ended ∧ MsW w1 A s.n :=
  ⟨h1.2.blk h.run (fun f => f.2.ne (blk_tag h.run) (by decide) nd_run rfl), own_only h.steps h1.2 (fun g hg f => f.2.ne (own_tag h.steps hg) (by decide) nd_int rfl), own_only h.ended h1.2 (fun g hg f => f.2.ne (own_tag h.ended hg) (by decide) nd_int rfl), h.ms.only h1.2 (fun b f t => f.2.ne t (by decide) nd_mach rfl)⟩
theorem mid_ofW {w w1 w2 : World} {base : Nat} {A : RA} {Z : WD} {s : X} {i m g2 c2 : Nat} {v2 : Value} (h : IsRunW w base A Z s) (ok : WOk Z base A.B) (h1 : Stepped w w1 base Z A.B s i m) {ob : Obj}
    (hv2 : v2 = .slice (some ⟨g2, 0, none⟩) (s.steps.length + 1) c2) (h2 : OwnInts .i64 3 w2 base v2 (s.steps ++ [(i : Int)])) (hg : (w1.alloc ob).grownBy w2 A.vs.ownBlock) (ha : v2.ownBlock = A.vs.ownBlock ∨ v2.ownBlock = some (w1.alloc ob).heap.size) : MidW w w2 base A Z s i m g2 c2 := by
  subst hv2
  obtain ⟨run1, st1, en1, ms1⟩ := h.stepped h1
  have o2 : Only (fun b => A.vs.ownBlock = some b) w1 w2 := ((Only.refl _ w1).alloc ob).trans (Only.ofGrown hg (fun k hk => .inl hk))
  have hw1 : base ≤ w1.heap.size := Nat.le_trans h.hw h1.2.size
  have ne2 : ∀ g, A.ve.ownBlock = some g → ¬ A.vs.ownBlock = some g := fun g hg hv => by
    rcases h.ne with h | h
    · rw [h] at hv; cases hv
    · exact h (by rw [hv, hg])
  refine ⟨o2.blk run1 (fun f => (own_tag st1 f).ne (blk_tag run1) (by decide) rfl), ms1.only o2 (fun b f t => (own_tag st1 f).ne t (by decide) rfl), h1.1.kept ok hw1 o2 (fun b f t => t.ne (own_tag st1 f) (by decide) nd_int rfl) (fun b f => Nat.le_trans ok.bv (st1.lt b f).1), h2, own_only en1 o2 ne2, ?_, (h1.2.mono (fun b f => f.1)).trans (o2.mono (fun b f => .inl (st1.lt b f).1))⟩
  intro he
  rcases ha with ha | ha
  · exact ne2 g2 he.symm ha.symm
  · have := (h.ended.lt g2 he.symm).2
    have := h1.2.size
    simp [Value.ownBlock] at ha
    omega
theorem Wr.like {w : World} {base : Nat} {Z : WD} {B : Nat → Nat} {s : X} (h : Wr w base Z B s) : Wr w base Z B s := h
/-- The machine goes on. -/
theorem MidW.on {w w2 : World} {base : Nat} {A : RA} {Z : WD} {s : X} {i m g2 c2 : Nat} (h : MidW w w2 base A Z s i m g2 c2) (ok : WOk Z base A.B) (hr : base ≤ A.r) (hw : base ≤ w2.heap.size) (hm : s.left i = some m) (h1 : ¬ m ≤ 1) :
    IsRunW (w2.setCell ⟨A.r, 1, none⟩ (.slice (some ⟨g2, 0, none⟩) (s.steps.length + 1) c2)) base { A with vs := .slice (some ⟨g2, 0, none⟩) (s.steps.length + 1) c2 } Z (s.go i m) ∧ Only (WF Z base A.B) w (w2.setCell ⟨A.r, 1, none⟩ (.slice (some ⟨g2, 0, none⟩) (s.steps.length + 1) c2)) := by
  have ho : Only (· = A.r) w2 (w2.setCell ⟨A.r, 1, none⟩ (.slice (some ⟨g2, 0, none⟩) (s.steps.length + 1) c2)) := (Only.refl _ _).set _ _ (.inl rfl)
  have tr := blk_tag h.run
  refine ⟨⟨(h.run.set 1 _).ext (run_upd1 (X.running_on hm h1) rfl _), hr, h.ms.only ho (fun b hb t => by subst hb; exact tr.ne t (by decide) rfl), h.wr.kept ok hw ho (fun b hb t => by subst hb; exact t.ne tr (by decide) nd_run rfl) (fun b hb => by subst hb; exact Nat.le_trans ok.bv hr), ?_, ?_, .inr h.ne, by simpa using hw⟩, h.only.set _ _ (.inl (.inl hr))⟩
  · exact own_only h.steps ho (fun g hg e => (own_tag h.steps hg).ne tr (by decide) e)
  · have := own_only h.ended ho (fun g hg e => (own_tag h.ended hg).ne tr (by decide) e)
    rw [show (s.go i m).ended = s.ended from if_neg h1]; exact this
/-- The machine has ended. -/
theorem MidW.done {w w2 : World} {base : Nat} {A : RA} {Z : WD} {s : X} {i m g2 c2 ge ce : Nat} (h : MidW w w2 base A Z s i m g2 c2) (ok : WOk Z base A.B) (hr : base ≤ A.r) (hw : base ≤ w2.heap.size) (hve : A.ve = .slice (some ⟨ge, 0, none⟩) s.ended.length ce) (hm : s.left i = some m) (h1 : m ≤ 1) (w4 : World)
    (h4 : w4 = (((w2.setCell ⟨A.r, 1, none⟩ (.slice (some ⟨g2, 0, none⟩) (s.steps.length + 1) c2)).drew.setCell ⟨ge, i, none⟩ (.int .i64 (s.steps.length : Int))).setCell ⟨A.r, 3, none⟩ (.int .i64 ((s.go i m).running : Int)))) :
    IsRunW w4 base { A with vs := .slice (some ⟨g2, 0, none⟩) (s.steps.length + 1) c2 } Z (s.go i m) ∧ Only (WF Z base A.B) w w4 := by
  subst h4
  have tr := blk_tag h.run
  have hge : A.ve.ownBlock = some ge := by rw [hve]; rfl
  have te := own_tag h.ended hge
  have hgr : ge ≠ A.r := te.ne tr (by decide)
  have hgb := (h.ended.lt ge hge).1
  have ho : Only (fun b => b = A.r ∨ b = ge) w2 (((w2.setCell ⟨A.r, 1, none⟩ (.slice (some ⟨g2, 0, none⟩) (s.steps.length + 1) c2)).drew.setCell ⟨ge, i, none⟩ (.int .i64 (s.steps.length : Int))).setCell ⟨A.r, 3, none⟩ (.int .i64 ((s.go i m).running : Int))) :=
    (((Only.refl _ _).set _ _ (.inl (.inl rfl))).drew.set _ _ (.inl (.inr rfl))).set _ _ (.inl (.inl rfl))
  refine ⟨⟨?_, hr, h.ms.only ho (fun b hb t => by
      rcases hb with rfl | rfl
      · exact tr.ne t (by decide) rfl
      · exact te.ne t (by decide) rfl), h.wr.kept ok hw ho (fun b hb t => by
      rcases hb with rfl | rfl
      · exact t.ne tr (by decide) nd_run rfl
      · exact t.ne te (by decide) nd_int rfl) (fun b hb => Nat.le_trans ok.bv (by rcases hb with rfl | rfl <;> assumption)), ?_, ?_, .inr h.ne, by simpa using hw⟩,
    h.only.trans (ho.mono (fun b hb => .inl (by rcases hb with rfl | rfl <;> assumption)))⟩
  · exact ((((h.run.set 1 _).drew.setOther (a := ⟨ge, i, none⟩) hgr.symm _).set 3 _)).ext (run_upd3 (A := A) (s := s) (s' := s.go i m) rfl _)
  · exact own_only h.steps ho (fun g hg e => by
      rcases e with e | e
      · exact (own_tag h.steps hg).ne tr (by decide) e
      · subst e; exact h.ne (by rw [hge]; exact hg))
  · have e1 : OwnInts .i64 3 (w2.setCell ⟨A.r, 1, none⟩ (.slice (some ⟨g2, 0, none⟩) (s.steps.length + 1) c2)).drew base A.ve s.ended :=
      own_only h.ended ((Only.refl (· = A.r) w2).set _ _ (.inl rfl)).drew (fun g hg e => (own_tag h.ended hg).ne tr (by decide) e)
    rw [hve] at e1
    have e2 := e1.stored rfl i (s.steps.length : Int)
    have e3 := own_only e2 (((Only.refl (· = A.r) _).set ⟨A.r, 3, none⟩ (.int .i64 ((s.go i m).running : Int)) (.inl rfl))) (fun g hg e => hgr ((show ge = g by simpa [Value.ownBlock] using hg).trans e))
    show OwnInts _ _ _ _ A.ve _
    rw [hve]
    rw [show (s.go i m).ended = s.ended.set i (s.steps.length : Int) from if_pos h1]
    exact e3
set_option maxRecDepth 100000 in
set_option maxHeartbeats 1000000 in
theorem wrstep_any (w : World) (base : Nat) (A : RA) (Z : WD) (s : X) (i M : Nat) (h : IsRunW w base A Z s) (ok : s.Ok M) (wok : WOk Z base A.B) (hM : M ≤ 1000) (hi : i < s.n) :
    Calls Try.prog 34 #[.pointer (some ⟨A.r, 0, none⟩), .int .i64 (i : Int)] w fun e w' => e = .returned (.tuple #[]) ∧ ∃ vs', Hid (IsRunW w' base { A with vs := vs' } Z (s.step i) ∧ Only (WF Z base A.B) w w') := by
  obtain ⟨g, hg, hb⟩ := h.ms
  have hi2 : i < 2 := by have := h.wr.n; omega
  have hn : s.n ≤ 1000 := by have := h.wr.n; omega
  have WOKH := Lib.hid wok
  have H := Lib.hid h
  have c0 : w.cell? ⟨A.r, 0, none⟩ = some (.slice (some ⟨g, 0, none⟩) s.n A.mc) := (h.run.cell (o := 0) (by omega)).trans (by simp [runG, hg])
  have cm := hb.cell (o := i) hi
  have hi1 : (i : Int) < (s.n : Int) := by omega
  have hi0 : (0 : Int) ≤ (i : Int) := by omega
  obtain ⟨m, hleft, _, _, _⟩ := h.wr.objs i hi2
  clear wok
  · have hel : 0 < s.ended.length := by rw [ok.len]; omega
    obtain ⟨ge, ce, hve, _, _⟩ := own_addr h.ended hel
    have c2 : w.cell? ⟨A.r, 2, none⟩ = some (.slice (some ⟨ge, 0, none⟩) s.n ce) := (h.run.cell (o := 2) (by omega)).trans (by rw [← ok.len, ← hve]; simp [runG])
    have he := h.ended
    rw [hve] at he
    obtain ⟨cx, zx⟩ := he.cell i (by rw [ok.len]; exact hi)
    obtain ⟨x, hx⟩ : ∃ x, s.ended.getD i 0 = x := ⟨_, rfl⟩
    rw [hx] at cx
    rw [show machW A.B i = .iface 64 (.pointer (some ⟨A.B i, 0, none⟩)) from rfl] at cm
    have HLEFT := Lib.hid hleft
    have HX := Lib.hid hx
    have HVE := Lib.hid hve
    have HLEN := Lib.hid ok.len
    by_cases hx0 : 0 ≤ x
    · have HS := Lib.hid (X.step_over hleft (by rw [hx]; exact hx0))
      clear h hb hg hleft ok hve he hx hel
      go_enter Try.func34, Try.ntmps34
      go_wp2
      refine bodyPost_ret (results_none rfl _ _ _) rfl ?_
      exact ⟨rfl, A.vs, Lib.hid ⟨by rw [HS.out]; exact H.out, Only.refl _ _⟩⟩
    · have hxn : x < 0 := by omega
      have HS := Lib.hid (X.step_go hleft (by rw [hx]; exact hxn))
      have hm63 := ok.small i m hleft
      have hst := ok.steps
      have HST : Hid (Calls Try.prog 77 #[.pointer (some ⟨A.B i, 0, none⟩)] w fun e w' => e = .returned (.bool (decide (m ≤ 1))) ∧ Hid (Stepped w w' base Z A.B s i m)) := Lib.hid (wstep_any w base Z A.B s i m h.wr WOKH.out h.hw hi2 hleft (by omega))
      have HR1 : Hid (∀ w1, Stepped w w1 base Z A.B s i m → w1.cell? ⟨A.r, 1, none⟩ = some A.vs ∧ OwnInts .i64 3 w1 base A.vs s.steps) := Lib.hid fun w1 h1 =>
        ⟨((H.out.stepped h1).1.cell (o := 1) (by omega)).trans rfl, (H.out.stepped h1).2.1⟩
      obtain ⟨i0, hi', hz0, hz1, hz2⟩ := info_parts infoInt
      have HI := Lib.hid hi'
      have HZ0 := Lib.hid hz0
      have HZ1 := Lib.hid hz1
      have HZ2 := Lib.hid hz2
      have HBW := Lib.hid h.hw
      by_cases h1 : m ≤ 1
      · have HD : Hid (decide (m ≤ 1) = true) := Lib.hid (by simpa using h1)
        rw [HD.out] at HST
        have HRE := Lib.hid (X.running_end hi ok.len hleft (by rw [hx]; exact hxn) h1)
        have hrl := (s.go i m).running_le
        have hgn : (s.go i m).n = s.n := rfl
        rw [hgn] at hrl
        have H1M := Lib.hid h1
        obtain ⟨rr, hrr⟩ : ∃ rr, (s.go i m).running = rr := ⟨_, rfl⟩
        have HRR := Lib.hid hrr
        rw [hrr] at HRE hrl
        clear h hb hg hleft ok hve he hx hel hx0 hi' hz0 hz1 hz2 hm63 h1 hgn hrr
        go_enter Try.func34, Try.ntmps34
        go_wp2_with (first
          | (go_at_call 77; refine HST.out.mono ?_; rintro e w1 ⟨rfl, H1⟩; obtain ⟨c1, hown⟩ := HR1.out w1 H1.out; have HOWN := Lib.hid hown; clear hown)
          | (at_builtin; refine wpList_app (by simp [Region.wanted, yielded]) (.tmp 37) (.tmp 39) 23 rfl (v := A.vs) (B := w1.heap.size + 1) (c := 1) (A := some ⟨w1.heap.size, 0, none⟩) (zs := [(i : Int)]) Try.underlying23 HI.out HZ0.out HZ1.out HZ2.out rfl rfl (HOWN.out.alloc _) rfl (IntsAt.new .i64 w1 3 (0, 0) [(i : Int)]) rfl (by simp [maxLen]; omega) (by omega) (Nat.le_trans HBW.out (Nat.le_trans H1.out.2.size (by simp))) ?_; intro v2 w2 ho2 hg2 ha2; obtain ⟨g2, cc2, hv2, hgb2, hgs2⟩ := own_addr ho2 (by simp); have hv3 : v2 = .slice (some ⟨g2, 0, none⟩) (s.steps.length + 1) cc2 := hv2.trans (by simp); have MID := Lib.hid (mid_ofW H.out WOKH.out H1.out hv3 ho2 hg2 ha2); clear hv2 ho2 hg2 ha2; subst hv3; have c1b : w2.cell? ⟨A.r, 1, none⟩ = some A.vs := MID.out.run.cell (o := 1) (by omega); have z1b : w2.frozen? ⟨A.r, 1, none⟩ = false := MID.out.run.frozen _))
        obtain ⟨w3, hw3⟩ : ∃ w3, w3 = w2.setCell ⟨A.r, 1, none⟩ (.slice (some ⟨g2, 0, none⟩) (s.steps.length + 1) cc2) := ⟨_, rfl⟩
        rw [← hw3]
        have R3 := MID.out.run.set 1 (.slice (some ⟨g2, 0, none⟩) (s.steps.length + 1) cc2)
        rw [← hw3] at R3
        have d1 : w3.cell? ⟨A.r, 1, none⟩ = some (.slice (some ⟨g2, 0, none⟩) (s.steps.length + 1) cc2) := (R3.cell (o := 1) (by omega)).trans (by rw [upd_same])
        have d2 : w3.cell? ⟨A.r, 2, none⟩ = some (.slice (some ⟨ge, 0, none⟩) s.n ce) := (R3.cell (o := 2) (by omega)).trans (by rw [upd_other _ _ (by omega), ← HLEN.out, ← HVE.out]; rfl)
        have HT : Hid (ge ≠ A.r) := Lib.hid ((own_tag MID.out.ended (by rw [HVE.out]; rfl)).ne (blk_tag MID.out.run) (by decide))
        have d3 : ∃ u, w3.drew.cell? ⟨ge, i, none⟩ = some u ∧ w3.drew.frozen? ⟨ge, i, none⟩ = false := by
          have := MID.out.ended
          rw [HVE.out] at this
          obtain ⟨a1, a2⟩ := this.cell i (by rw [HLEN.out]; exact hi)
          have q1 : w3.cell? ⟨ge, i, none⟩ = some (.int .i64 (s.ended.getD i 0)) := by
            rw [hw3, World.cell?_setCell_other _ _ _ _ (fun e => HT.out (congrArg Addr.block e).symm)]
            exact a1
          have q2 : w3.frozen? ⟨ge, i, none⟩ = false := by
            rw [hw3, World.frozen?_setCell]
            exact a2
          exact ⟨_, q1, q2⟩
        obtain ⟨u, d3, d4⟩ := d3
        have R5 := R3.drew.setOther (a := ⟨ge, i, none⟩) HT.out.symm (.int .i64 (s.steps.length : Int))
        have d5 : (w3.drew.setCell ⟨ge, i, none⟩ (.int .i64 (s.steps.length : Int))).cell? ⟨A.r, 3, none⟩ = some (.int .i64 ((rr : Int) + 1)) := (R5.cell (o := 3) (by omega)).trans (by rw [upd_other _ _ (by omega)]; simp [runG, HRE.out])
        have d6 : (w3.drew.setCell ⟨ge, i, none⟩ (.int .i64 (s.steps.length : Int))).frozen? ⟨A.r, 3, none⟩ = false := R5.frozen _
        have HW3 := Lib.hid hw3
        clear hw3 R3 R5 c1b z1b c1 c0 cm c2 zx cx
        have hwl : IntKind.i64.wrap ((s.steps.length : Int) + 1) = (s.steps.length : Int) + 1 := IntWalk.i64_in _ ⟨by omega, by omega⟩
        go_wp2
        go_still_tail 14, (by kernel_rfl)
        change wpList _ _ _ _ _ w3.drew
        have hwr : IntKind.i64.wrap ((rr : Int) + 1 - 1) = (rr : Int) := by rw [IntKind.wrap_i64]; omega
        obtain ⟨wd, hwd⟩ : ∃ wd, wd = w3.drew := ⟨_, rfl⟩
        rw [← hwd] at d3 d4 d5 d6 ⊢
        have HWD := Lib.hid hwd
        clear hwd d1 d2
        go_wp2
        go_end0
        refine ⟨rfl, .slice (some ⟨g2, 0, none⟩) (s.steps.length + 1) cc2, Lib.hid ?_⟩
        rw [HS.out]
        exact MID.out.done WOKH.out H.out.hr (by have := HBW.out; have := MID.out.only.size; omega) HVE.out HLEFT.out H1M.out _ (by rw [HRR.out, HWD.out, HW3.out])
      · have HD : Hid (decide (m ≤ 1) = false) := Lib.hid (by simpa using h1)
        rw [HD.out] at HST
        have H1M := Lib.hid h1
        clear h hb hg hleft ok hve he hx hel hx0 hi' hz0 hz1 hz2 hm63 h1
        go_enter Try.func34, Try.ntmps34
        go_wp2_with (first
          | (go_at_call 77; refine HST.out.mono ?_; rintro e w1 ⟨rfl, H1⟩; obtain ⟨c1, hown⟩ := HR1.out w1 H1.out; have HOWN := Lib.hid hown; clear hown)
          | (at_builtin; refine wpList_app (by simp [Region.wanted, yielded]) (.tmp 37) (.tmp 39) 23 rfl (v := A.vs) (B := w1.heap.size + 1) (c := 1) (A := some ⟨w1.heap.size, 0, none⟩) (zs := [(i : Int)]) Try.underlying23 HI.out HZ0.out HZ1.out HZ2.out rfl rfl (HOWN.out.alloc _) rfl (IntsAt.new .i64 w1 3 (0, 0) [(i : Int)]) rfl (by simp [maxLen]; omega) (by omega) (Nat.le_trans HBW.out (Nat.le_trans H1.out.2.size (by simp))) ?_; intro v2 w2 ho2 hg2 ha2; obtain ⟨g2, cc2, hv2, hgb2, hgs2⟩ := own_addr ho2 (by simp); have hv3 : v2 = .slice (some ⟨g2, 0, none⟩) (s.steps.length + 1) cc2 := hv2.trans (by simp); have MID := Lib.hid (mid_ofW H.out WOKH.out H1.out hv3 ho2 hg2 ha2); clear hv2 ho2 hg2 ha2; subst hv3; have c1b : w2.cell? ⟨A.r, 1, none⟩ = some A.vs := MID.out.run.cell (o := 1) (by omega); have z1b : w2.frozen? ⟨A.r, 1, none⟩ = false := MID.out.run.frozen _))
        go_end0
        refine ⟨rfl, .slice (some ⟨g2, 0, none⟩) (s.steps.length + 1) cc2, Lib.hid ?_⟩
        rw [HS.out]
        exact MID.out.on WOKH.out H.out.hr (by have := HBW.out; have := MID.out.only.size; omega) HLEFT.out H1M.out
end Go.Proofs.Ythnaogfcffmphaa.Sched
