/-
  SCHED: (*run).step.
-/
import Derived.Test.YthnaogfcffmphaaSBase
import Derived.Test.YthnaogfcffmphaaSModel
import Derived.StillTailTactics
import Derived.RegionTactic
import Derived.Deep.RegionHeld3
set_option linter.unusedVariables false
set_option linter.unusedSimpArgs false
namespace Go.Proofs.Ythnaogfcffmphaa.Sched
open Go.ChangeShapes Go.WideShapes Go.ChangeAt Go.RowKit Go.Proofs.Ythnaogfcffmphaa.Mem Go.Proofs.Ythnaogfcffmphaa.Law Go.Proofs.Ythnaogfcffmphaa.Args Go.Proofs.Ythnaogfcffmphaa.Own
theorem infoInt : (Try.prog.info? 3).map (fun i => (i.zero, i.size, i.bytes)) = some (some (.int .i64 0), 1, 8) := by kernel_rfl
/-! ### blocks of different types -/
def Tag (w : World) (b : Nat) (T : TypeId) : Prop := ∃ cs fr, w.heap[b]? = some (.cells cs T fr)
theorem Tag.ne {w : World} {b b' : Nat} {T T' : TypeId} (h : Tag w b T) (h' : Tag w b' T') (hT : T ≠ T') : b ≠ b' := by
  rintro rfl
  obtain ⟨cs, fr, h⟩ := h
  obtain ⟨cs', fr', h'⟩ := h'
  rw [h] at h'
  injection h' with h'
  injection h' with _ h2 _
  exact hT h2
theorem blk_tag {w : World} {b n : Nat} {T : TypeId} {g : Nat → Value} (h : Blk w b T n g) : Tag w b T := by
  obtain ⟨cs, h, _⟩ := h
  exact ⟨cs, _, h⟩
theorem own_tag {k : IntKind} {e : TypeId} {w : World} {base g : Nat} {v : Value} {zs : List Int} (h : OwnInts k e w base v zs) (hg : v.ownBlock = some g) : Tag w g e := by
  rcases h.2 with ⟨rfl, _⟩ | ⟨g', cap, cur, rfl, _, hgg, _⟩
  · cases hg
  · have : g' = g := by simpa [Value.ownBlock] using hg
    subst this
    exact ⟨cur, _, hgg⟩
theorem own_of_block {k : IntKind} {e : TypeId} {w w' : World} {base : Nat} {v : Value} {zs : List Int} (h : OwnInts k e w base v zs) (hb : ∀ g, v.ownBlock = some g → w'.heap[g]? = w.heap[g]?) : OwnInts k e w' base v zs := by
  refine ⟨h.1, ?_⟩
  rcases h.2 with hn | ⟨g, cap, cur, rfl, hbg, hgg, rest⟩
  · exact .inl hn
  · refine .inr ⟨g, cap, cur, rfl, hbg, ?_, rest⟩
    rw [hb g rfl]; exact hgg
theorem own_only {F : Nat → Prop} {k : IntKind} {e : TypeId} {w w' : World} {base : Nat} {v : Value} {zs : List Int} (h : OwnInts k e w base v zs) (ho : Only F w w') (hn : ∀ g, v.ownBlock = some g → ¬ F g) : OwnInts k e w' base v zs :=
  own_of_block h fun g hg => ho.block g (h.lt g hg).2 (hn g hg)
theorem own_addr {k : IntKind} {e : TypeId} {w : World} {base : Nat} {v : Value} {zs : List Int} (h : OwnInts k e w base v zs) (hn : 0 < zs.length) : ∃ g cap, v = .slice (some ⟨g, 0, none⟩) zs.length cap ∧ base ≤ g ∧ g < w.heap.size := by
  rcases h.2 with ⟨_, h0⟩ | ⟨g, cap, cur, rfl, hb, hg, _⟩
  · omega
  · exact ⟨g, cap, rfl, hb, (Array.getElem?_eq_some_iff.1 hg).1⟩
theorem own_base {k : IntKind} {e : TypeId} {w : World} {base base' : Nat} {v : Value} {zs : List Int} (h : OwnInts k e w base v zs) (hb : base' ≤ base) : OwnInts k e w base' v zs := by
  refine ⟨h.1, ?_⟩
  rcases h.2 with hn | ⟨g, cap, cur, rfl, hbg, rest⟩
  · exact .inl hn
  · exact .inr ⟨g, cap, cur, rfl, by omega, rest⟩
/-! ### a run in memory -/
structure RA where
  r : Nat
  B : Nat → Nat
  ma : Option Addr
  mc : Nat
  vs : Value
  ve : Value
def machV (B : Nat → Nat) (left : Nat → Option Nat) (i : Nat) : Value := if (left i).isSome then .iface 41 (.pointer (some ⟨B i, 0, none⟩)) else .nilIface
def runG (A : RA) (s : X) : Nat → Value := fun o => if o = 0 then .slice A.ma s.n A.mc else if o = 1 then A.vs else if o = 2 then A.ve else .int .i64 (s.running : Int)
structure IsObjs (w : World) (A : RA) (s : X) : Prop where
  ms : s.n = 0 ∨ ∃ g, A.ma = some ⟨g, 0, none⟩ ∧ Blk w g 83 s.n (machV A.B s.left)
  objs : ∀ i, i < s.n → ∀ m, s.left i = some m → IsSteps w (A.B i) m
  inj : ∀ i j, i < s.n → j < s.n → (s.left i).isSome → (s.left j).isSome → A.B i = A.B j → i = j
structure IsRun (w : World) (base : Nat) (A : RA) (s : X) : Prop where
  run : Blk w A.r 77 4 (runG A s)
  hr : base ≤ A.r
  obj : IsObjs w A s
  steps : OwnInts .i64 3 w base A.vs s.steps
  ended : OwnInts .i64 3 w base A.ve s.ended
  ne : A.vs.ownBlock = none ∨ A.vs.ownBlock ≠ A.ve.ownBlock
  hw : base ≤ w.heap.size
def RF (base : Nat) (A : RA) (s : X) : Nat → Prop := fun b => base ≤ b ∨ ∃ i, i < s.n ∧ (s.left i).isSome ∧ b = A.B i
theorem IsObjs.kept {F : Nat → Prop} {w w' : World} {A : RA} {s : X} (h : IsObjs w A s) (ho : Only F w w') (hF : ∀ b, F b → Tag w b 83 ∨ Tag w b 81 → False) : IsObjs w' A s := by
  refine ⟨?_, fun i hi m hm => ho.blk (h.objs i hi m hm) (fun f => hF _ f (.inr (blk_tag (h.objs i hi m hm)))), h.inj⟩
  rcases h.ms with h0 | ⟨g, hg, hb⟩
  · exact .inl h0
  · exact .inr ⟨g, hg, ho.blk hb (fun f => hF _ f (.inl (blk_tag hb)))⟩
theorem machV_go (B : Nat → Nat) (s : X) (i m : Nat) (hm : s.left i = some m) : machV B (s.go i m).left = machV B s.left := by
  funext j
  unfold machV
  rw [X.isSome_go hm]
structure Mid (w w2 : World) (base : Nat) (A : RA) (s : X) (i m g2 c2 : Nat) : Prop where
  run : Blk w2 A.r 77 4 (runG A s)
  obj : IsObjs w2 A (s.go i m)
  steps : OwnInts .i64 3 w2 base (.slice (some ⟨g2, 0, none⟩) (s.steps.length + 1) c2) (s.steps ++ [(i : Int)])
  ended : OwnInts .i64 3 w2 base A.ve s.ended
  ne : some g2 ≠ A.ve.ownBlock
  only : Only (RF base A s) w w2
theorem mid_of {w w1 w2 : World} {base : Nat} {A : RA} {s : X} {i m g2 c2 : Nat} {v2 : Value} (h : IsRun w base A s) (hi : i < s.n) (hm : s.left i = some m) (h1 : IsSteps w1 (A.B i) (m - 1)) (o1 : Only (· = A.B i) w w1) {ob : Obj}
    (hv2 : v2 = .slice (some ⟨g2, 0, none⟩) (s.steps.length + 1) c2) (h2 : OwnInts .i64 3 w2 base v2 (s.steps ++ [(i : Int)])) (hg : (w1.alloc ob).grownBy w2 A.vs.ownBlock) (ha : v2.ownBlock = A.vs.ownBlock ∨ v2.ownBlock = some (w1.alloc ob).heap.size) : Mid w w2 base A s i m g2 c2 := by
  subst hv2
  have o2 : Only (fun b => A.vs.ownBlock = some b) w1 w2 := ((Only.refl _ w1).alloc ob).trans (Only.ofGrown hg (fun k hk => .inl hk))
  have hBi : Tag w (A.B i) 81 := blk_tag (h.obj.objs i hi m hm)
  have nv : ∀ {b T}, Tag w1 b T → T ≠ 3 → ¬ A.vs.ownBlock = some b := fun {b T} ht hT hb => by
    have t1 := own_tag h.steps hb
    have hne : b ≠ A.B i := fun e => t1.ne hBi (by decide) e
    have : Tag w1 b 3 := by
      obtain ⟨cs, fr, hc⟩ := t1
      exact ⟨cs, fr, by rw [o1.block b (h.steps.lt b hb).2 hne]; exact hc⟩
    exact ht.ne this hT rfl
  have rn : A.r ≠ A.B i := (blk_tag h.run).ne hBi (by decide)
  have run1 := o1.blk h.run rn
  have run2 := o2.blk run1 (nv (blk_tag run1) (by decide))
  have en1 : OwnInts .i64 3 w1 base A.ve s.ended := own_only h.ended o1 (fun g hg e => (own_tag h.ended hg).ne hBi (by decide) e)
  have ne2 : ∀ g, A.ve.ownBlock = some g → ¬ A.vs.ownBlock = some g := fun g hg hv => by
    rcases h.ne with h | h
    · rw [h] at hv; cases hv
    · exact h (by rw [hv, hg])
  have en2 : OwnInts .i64 3 w2 base A.ve s.ended := own_only en1 o2 ne2
  have hsub : ∀ b, A.vs.ownBlock = some b → RF base A s b := fun b hb => .inl (h.steps.lt b hb).1
  refine ⟨run2, ⟨?_, fun j hj k hk => ?_, fun a b ha hb e1 e2 hab => h.obj.inj a b ha hb (by rwa [X.isSome_go hm] at e1) (by rwa [X.isSome_go hm] at e2) hab⟩, h2, en2, ?_, ?_⟩
  · rcases h.obj.ms with h0 | ⟨g, hg, hb⟩
    · exact .inl h0
    · have b1 := o1.blk hb ((blk_tag hb).ne hBi (by decide))
      refine .inr ⟨g, hg, ?_⟩
      rw [machV_go _ _ _ _ hm]
      exact o2.blk b1 (nv (blk_tag b1) (by decide))
  · by_cases e : j = i
    · subst e
      rw [X.left_same] at hk
      injection hk with hk
      subst hk
      exact o2.blk h1 (nv (blk_tag h1) (by decide))
    · rw [X.left_other _ _ _ e] at hk
      have b0 := h.obj.objs j hj k hk
      have b1 := o1.blk b0 (fun e2 => e (h.obj.inj j i hj hi (by rw [hk]; rfl) (by rw [hm]; rfl) e2))
      exact o2.blk b1 (nv (blk_tag b1) (by decide))
  · intro he
    rcases ha with ha | ha
    · exact ne2 g2 he.symm ha.symm
    · have := (h.ended.lt g2 he.symm).2
      have := o1.size
      simp [Value.ownBlock] at ha
      omega
  · exact (o1.mono (fun b hb => .inr ⟨i, hi, by rw [hm]; rfl, hb⟩)).trans (o2.mono hsub)
theorem RF_go {base : Nat} {A : RA} {s : X} {i m : Nat} (hm : s.left i = some m) : RF base A (s.go i m) = RF base A s := by
  funext b
  unfold RF
  simp only [X.isSome_go hm]
  rfl
theorem run_upd1 {A : RA} {s s' : X} (hr : s'.running = s.running) (hn : s'.n = s.n) (v : Value) : ∀ o, o < 4 → runG { A with vs := v } s' o = upd (runG A s) 1 v o := by
  intro o ho
  rcases o with _ | _ | _ | _ | o
  · simp [runG, upd, hn]
  · simp [runG, upd]
  · simp [runG, upd]
  · simp [runG, upd, hr]
  · omega
theorem run_upd3 {A : RA} {s s' : X} (hn : s'.n = s.n) (v : Value) : ∀ o, o < 4 → runG { A with vs := v } s' o = upd (upd (runG A s) 1 v) 3 (.int .i64 (s'.running : Int)) o := by
  intro o ho
  rcases o with _ | _ | _ | _ | o
  · simp [runG, upd, hn]
  · simp [runG, upd]
  · simp [runG, upd]
  · simp [runG, upd]
  · omega
/-- The machine goes on. -/
theorem Mid.on {w w2 : World} {base : Nat} {A : RA} {s : X} {i m g2 c2 : Nat} (h : Mid w w2 base A s i m g2 c2) (hr : base ≤ A.r) (hw : base ≤ w2.heap.size) (hm : s.left i = some m) (h1 : ¬ m ≤ 1) :
    IsRun (w2.setCell ⟨A.r, 1, none⟩ (.slice (some ⟨g2, 0, none⟩) (s.steps.length + 1) c2)) base { A with vs := .slice (some ⟨g2, 0, none⟩) (s.steps.length + 1) c2 } (s.go i m) ∧ Only (RF base A s) w (w2.setCell ⟨A.r, 1, none⟩ (.slice (some ⟨g2, 0, none⟩) (s.steps.length + 1) c2)) := by
  have ho : Only (· = A.r) w2 (w2.setCell ⟨A.r, 1, none⟩ (.slice (some ⟨g2, 0, none⟩) (s.steps.length + 1) c2)) := (Only.refl _ _).set _ _ (.inl rfl)
  have tr := blk_tag h.run
  refine ⟨⟨(h.run.set 1 _).ext (run_upd1 (X.running_on hm h1) rfl _), hr, (h.obj.kept ho (fun b hb ht => by subst hb; rcases ht with ht | ht <;> exact tr.ne ht (by decide) rfl) : IsObjs _ A _) |> fun k => ⟨k.ms, k.objs, k.inj⟩, ?_, ?_, .inr h.ne, by simpa using hw⟩, h.only.set _ _ (.inl (.inl hr))⟩
  · exact own_only h.steps ho (fun g hg e => (own_tag h.steps hg).ne tr (by decide) e)
  · have := own_only h.ended ho (fun g hg e => (own_tag h.ended hg).ne tr (by decide) e)
    rw [show (s.go i m).ended = s.ended from if_neg h1]; exact this
/-- The machine has ended. -/
theorem Mid.done {w w2 : World} {base : Nat} {A : RA} {s : X} {i m g2 c2 ge ce : Nat} (h : Mid w w2 base A s i m g2 c2) (hr : base ≤ A.r) (hw : base ≤ w2.heap.size) (hve : A.ve = .slice (some ⟨ge, 0, none⟩) s.ended.length ce) (hm : s.left i = some m) (h1 : m ≤ 1) (w4 : World)
    (h4 : w4 = (((w2.setCell ⟨A.r, 1, none⟩ (.slice (some ⟨g2, 0, none⟩) (s.steps.length + 1) c2)).drew.setCell ⟨ge, i, none⟩ (.int .i64 (s.steps.length : Int))).setCell ⟨A.r, 3, none⟩ (.int .i64 ((s.go i m).running : Int)))) :
    IsRun w4 base { A with vs := .slice (some ⟨g2, 0, none⟩) (s.steps.length + 1) c2 } (s.go i m) ∧ Only (RF base A s) w w4 := by
  subst h4
  have tr := blk_tag h.run
  have hge : A.ve.ownBlock = some ge := by rw [hve]; rfl
  have te := own_tag h.ended hge
  have hgr : ge ≠ A.r := te.ne tr (by decide)
  have hgb := (h.ended.lt ge hge).1
  have ho : Only (fun b => b = A.r ∨ b = ge) w2 (((w2.setCell ⟨A.r, 1, none⟩ (.slice (some ⟨g2, 0, none⟩) (s.steps.length + 1) c2)).drew.setCell ⟨ge, i, none⟩ (.int .i64 (s.steps.length : Int))).setCell ⟨A.r, 3, none⟩ (.int .i64 ((s.go i m).running : Int))) :=
    (((Only.refl _ _).set _ _ (.inl (.inl rfl))).drew.set _ _ (.inl (.inr rfl))).set _ _ (.inl (.inl rfl))
  refine ⟨⟨?_, hr, (h.obj.kept ho (fun b hb ht => by
      rcases hb with rfl | rfl <;> rcases ht with ht | ht
      · exact tr.ne ht (by decide) rfl
      · exact tr.ne ht (by decide) rfl
      · exact te.ne ht (by decide) rfl
      · exact te.ne ht (by decide) rfl) : IsObjs _ A _) |> fun k => ⟨k.ms, k.objs, k.inj⟩, ?_, ?_, .inr h.ne, by simpa using hw⟩,
    h.only.trans (ho.mono (fun b hb => .inl (by rcases hb with rfl | rfl <;> assumption)))⟩
  · exact ((((h.run.set 1 _).drew.setOther (a := ⟨ge, i, none⟩) hgr.symm _).set 3 _)).ext (run_upd3 (A := A) (s := s) (s' := s.go i m) rfl _)
  · exact own_only h.steps ho (fun g hg e => by
      rcases e with e | e
      · exact (own_tag h.steps hg).ne tr (by decide) e
      · subst e; exact h.ne (by rw [hge]; exact hg))
  · have e1 : OwnInts .i64 3 (w2.setCell ⟨A.r, 1, none⟩ (.slice (some ⟨g2, 0, none⟩) (s.steps.length + 1) c2)).drew base A.ve s.ended :=
      own_only h.ended ((Only.refl (· = A.r) w2).set _ _ (.inl rfl)).drew (fun g hg e => (own_tag h.ended hg).ne tr (by decide) e)
    rw [hve] at e1
    have e2 := e1.stored rfl i (s.steps.length : Int)
    have e3 := own_only e2 (((Only.refl (· = A.r) _).set ⟨A.r, 3, none⟩ (.int .i64 ((s.go i m).running : Int)) (.inl rfl))) (fun g hg e => hgr ((show ge = g by simpa [Value.ownBlock] using hg).trans e))
    show OwnInts _ _ _ _ A.ve _
    rw [hve]
    rw [show (s.go i m).ended = s.ended.set i (s.steps.length : Int) from if_pos h1]
    exact e3
theorem RA_eta (A : RA) : ({ A with vs := A.vs } : RA) = A := rfl
set_option maxRecDepth 100000 in
set_option maxHeartbeats 1000000 in
theorem rstep_any (w : World) (base : Nat) (A : RA) (s : X) (i M : Nat) (h : IsRun w base A s) (ok : s.Ok M) (hM : M ≤ 1000000) (hi : i < s.n) (hn : s.n ≤ 1000000) :
    Calls Try.prog 34 #[.pointer (some ⟨A.r, 0, none⟩), .int .i64 (i : Int)] w fun e w' => e = .returned (.tuple #[]) ∧ ∃ vs', Hid (IsRun w' base { A with vs := vs' } (s.step i) ∧ Only (RF base A s) w w') := by
  rcases h.obj.ms with h0 | ⟨g, hg, hb⟩
  · omega
  have H := Lib.hid h
  have c0 : w.cell? ⟨A.r, 0, none⟩ = some (.slice (some ⟨g, 0, none⟩) s.n A.mc) := (h.run.cell (o := 0) (by omega)).trans (by simp [runG, hg])
  have cm := hb.cell (o := i) hi
  have hi1 : (i : Int) < (s.n : Int) := by omega
  have hi0 : (0 : Int) ≤ (i : Int) := by omega
  obtain ⟨left, hleft⟩ : ∃ l, s.left i = l := ⟨_, rfl⟩
  rcases left with _ | m
  · have HS := Lib.hid (X.step_none hleft)
    rw [show machV A.B s.left i = .nilIface by unfold machV; rw [hleft]; rfl] at cm
    clear h hb hg hleft ok
    go_enter Try.func34, Try.ntmps34
    go_wp2
    refine bodyPost_ret (results_none rfl _ _ _) rfl ?_
    exact ⟨rfl, A.vs, Lib.hid ⟨by rw [HS.out]; exact H.out, Only.refl _ _⟩⟩
  · have hel : 0 < s.ended.length := by rw [ok.len]; omega
    obtain ⟨ge, ce, hve, _, _⟩ := own_addr h.ended hel
    have c2 : w.cell? ⟨A.r, 2, none⟩ = some (.slice (some ⟨ge, 0, none⟩) s.n ce) := (h.run.cell (o := 2) (by omega)).trans (by rw [← ok.len, ← hve]; simp [runG])
    have he := h.ended
    rw [hve] at he
    obtain ⟨cx, zx⟩ := he.cell i (by rw [ok.len]; exact hi)
    obtain ⟨x, hx⟩ : ∃ x, s.ended.getD i 0 = x := ⟨_, rfl⟩
    rw [hx] at cx
    rw [show machV A.B s.left i = .iface 41 (.pointer (some ⟨A.B i, 0, none⟩)) by unfold machV; rw [hleft]; rfl] at cm
    have HLEFT := Lib.hid hleft
    have HX := Lib.hid hx
    have HVE := Lib.hid hve
    have HLEN := Lib.hid ok.len
    by_cases hx0 : 0 ≤ x
    · have HS := Lib.hid (X.step_over hleft (by rw [hx]; exact hx0))
      clear h hb hg hleft ok hve he hx hel
      go_enter Try.func34, Try.ntmps34
      go_wp2
      refine bodyPost_ret (results_none rfl _ _ _) rfl ?_
      exact ⟨rfl, A.vs, Lib.hid ⟨by rw [HS.out]; exact H.out, Only.refl _ _⟩⟩
    · have hxn : x < 0 := by omega
      have HS := Lib.hid (X.step_go hleft (by rw [hx]; exact hxn))
      have hm63 := ok.small i m hleft
      have hst := ok.steps
      have HST : Hid (Calls Try.prog 23 #[.pointer (some ⟨A.B i, 0, none⟩)] w fun e w' => e = .returned (.bool (decide (m ≤ 1))) ∧ Hid (IsSteps w' (A.B i) (m - 1) ∧ Only (· = A.B i) w w')) := Lib.hid (step_any (A.B i) m w hm63 (h.obj.objs i hi m hleft))
      have HR1 : Hid (∀ w1, Only (· = A.B i) w w1 → w1.cell? ⟨A.r, 1, none⟩ = some A.vs ∧ OwnInts .i64 3 w1 base A.vs s.steps) := Lib.hid fun w1 ho => by
        have hBi : Tag w (A.B i) 81 := blk_tag (H.out.obj.objs i hi m HLEFT.out)
        exact ⟨((ho.blk H.out.run ((blk_tag H.out.run).ne hBi (by decide))).cell (o := 1) (by omega)).trans rfl, own_only H.out.steps ho (fun g hg e => (own_tag H.out.steps hg).ne hBi (by decide) e)⟩
      obtain ⟨i0, hi', hz0, hz1, hz2⟩ := info_parts infoInt
      have HI := Lib.hid hi'
      have HZ0 := Lib.hid hz0
      have HZ1 := Lib.hid hz1
      have HZ2 := Lib.hid hz2
      have HBW := Lib.hid h.hw
      by_cases h1 : m ≤ 1
      · have HD : Hid (decide (m ≤ 1) = true) := Lib.hid (by simpa using h1)
        rw [HD.out] at HST
        have HRE := Lib.hid (X.running_end hi ok.len hleft (by rw [hx]; exact hxn) h1)
        have hrl := (s.go i m).running_le
        have hgn : (s.go i m).n = s.n := rfl
        rw [hgn] at hrl
        have H1M := Lib.hid h1
        obtain ⟨rr, hrr⟩ : ∃ rr, (s.go i m).running = rr := ⟨_, rfl⟩
        have HRR := Lib.hid hrr
        rw [hrr] at HRE hrl
        clear h hb hg hleft ok hve he hx hel hx0 hi' hz0 hz1 hz2 hm63 h1 hgn hrr
        go_enter Try.func34, Try.ntmps34
        go_wp2_with (first
          | (go_at_call 23; refine HST.out.mono ?_; rintro e w1 ⟨rfl, H1⟩; obtain ⟨c1, hown⟩ := HR1.out w1 H1.out.2; have HOWN := Lib.hid hown; clear hown)
          | (at_builtin; refine wpList_app (by simp [Region.wanted, yielded]) (.tmp 37) (.tmp 39) 23 rfl (v := A.vs) (B := w1.heap.size + 1) (c := 1) (A := some ⟨w1.heap.size, 0, none⟩) (zs := [(i : Int)]) Try.underlying23 HI.out HZ0.out HZ1.out HZ2.out rfl rfl (HOWN.out.alloc _) rfl (IntsAt.new .i64 w1 3 (0, 0) [(i : Int)]) rfl (by simp [maxLen]; omega) (by omega) (Nat.le_trans HBW.out (Nat.le_trans H1.out.2.size (by simp))) ?_; intro v2 w2 ho2 hg2 ha2; obtain ⟨g2, cc2, hv2, hgb2, hgs2⟩ := own_addr ho2 (by simp); have hv3 : v2 = .slice (some ⟨g2, 0, none⟩) (s.steps.length + 1) cc2 := hv2.trans (by simp); have MID := Lib.hid (mid_of H.out hi HLEFT.out H1.out.1 H1.out.2 hv3 ho2 hg2 ha2); clear hv2 ho2 hg2 ha2; subst hv3; have c1b : w2.cell? ⟨A.r, 1, none⟩ = some A.vs := MID.out.run.cell (o := 1) (by omega); have z1b : w2.frozen? ⟨A.r, 1, none⟩ = false := MID.out.run.frozen _))
        obtain ⟨w3, hw3⟩ : ∃ w3, w3 = w2.setCell ⟨A.r, 1, none⟩ (.slice (some ⟨g2, 0, none⟩) (s.steps.length + 1) cc2) := ⟨_, rfl⟩
        rw [← hw3]
        have R3 := MID.out.run.set 1 (.slice (some ⟨g2, 0, none⟩) (s.steps.length + 1) cc2)
        rw [← hw3] at R3
        have d1 : w3.cell? ⟨A.r, 1, none⟩ = some (.slice (some ⟨g2, 0, none⟩) (s.steps.length + 1) cc2) := (R3.cell (o := 1) (by omega)).trans (by rw [upd_same])
        have d2 : w3.cell? ⟨A.r, 2, none⟩ = some (.slice (some ⟨ge, 0, none⟩) s.n ce) := (R3.cell (o := 2) (by omega)).trans (by rw [upd_other _ _ (by omega), ← HLEN.out, ← HVE.out]; rfl)
        have HT : Hid (ge ≠ A.r) := Lib.hid ((own_tag MID.out.ended (by rw [HVE.out]; rfl)).ne (blk_tag MID.out.run) (by decide))
        have d3 : ∃ u, w3.drew.cell? ⟨ge, i, none⟩ = some u ∧ w3.drew.frozen? ⟨ge, i, none⟩ = false := by
          have := MID.out.ended
          rw [HVE.out] at this
          obtain ⟨a1, a2⟩ := this.cell i (by rw [HLEN.out]; exact hi)
          have q1 : w3.cell? ⟨ge, i, none⟩ = some (.int .i64 (s.ended.getD i 0)) := by
            rw [hw3, World.cell?_setCell_other _ _ _ _ (fun e => HT.out (congrArg Addr.block e).symm)]
            exact a1
          have q2 : w3.frozen? ⟨ge, i, none⟩ = false := by
            rw [hw3, World.frozen?_setCell]
            exact a2
          exact ⟨_, q1, q2⟩
        obtain ⟨u, d3, d4⟩ := d3
        have R5 := R3.drew.setOther (a := ⟨ge, i, none⟩) HT.out.symm (.int .i64 (s.steps.length : Int))
        have d5 : (w3.drew.setCell ⟨ge, i, none⟩ (.int .i64 (s.steps.length : Int))).cell? ⟨A.r, 3, none⟩ = some (.int .i64 ((rr : Int) + 1)) := (R5.cell (o := 3) (by omega)).trans (by rw [upd_other _ _ (by omega)]; simp [runG, HRE.out])
        have d6 : (w3.drew.setCell ⟨ge, i, none⟩ (.int .i64 (s.steps.length : Int))).frozen? ⟨A.r, 3, none⟩ = false := R5.frozen _
        have HW3 := Lib.hid hw3
        clear hw3 R3 R5 c1b z1b c1 c0 cm c2 zx cx
        have hwl : IntKind.i64.wrap ((s.steps.length : Int) + 1) = (s.steps.length : Int) + 1 := IntWalk.i64_in _ ⟨by omega, by omega⟩
        go_wp2
        go_still_tail 14, (by kernel_rfl)
        change wpList _ _ _ _ _ w3.drew
        have hwr : IntKind.i64.wrap ((rr : Int) + 1 - 1) = (rr : Int) := by rw [IntKind.wrap_i64]; omega
        obtain ⟨wd, hwd⟩ : ∃ wd, wd = w3.drew := ⟨_, rfl⟩
        rw [← hwd] at d3 d4 d5 d6 ⊢
        have HWD := Lib.hid hwd
        clear hwd d1 d2
        go_wp2
        go_end0
        refine ⟨rfl, .slice (some ⟨g2, 0, none⟩) (s.steps.length + 1) cc2, Lib.hid ?_⟩
        rw [HS.out]
        exact MID.out.done H.out.hr (by have := HBW.out; have := MID.out.only.size; omega) HVE.out HLEFT.out H1M.out _ (by rw [HRR.out, HWD.out, HW3.out])
      · have HD : Hid (decide (m ≤ 1) = false) := Lib.hid (by simpa using h1)
        rw [HD.out] at HST
        have H1M := Lib.hid h1
        clear h hb hg hleft ok hve he hx hel hx0 hi' hz0 hz1 hz2 hm63 h1
        go_enter Try.func34, Try.ntmps34
        go_wp2_with (first
          | (go_at_call 23; refine HST.out.mono ?_; rintro e w1 ⟨rfl, H1⟩; obtain ⟨c1, hown⟩ := HR1.out w1 H1.out.2; have HOWN := Lib.hid hown; clear hown)
          | (at_builtin; refine wpList_app (by simp [Region.wanted, yielded]) (.tmp 37) (.tmp 39) 23 rfl (v := A.vs) (B := w1.heap.size + 1) (c := 1) (A := some ⟨w1.heap.size, 0, none⟩) (zs := [(i : Int)]) Try.underlying23 HI.out HZ0.out HZ1.out HZ2.out rfl rfl (HOWN.out.alloc _) rfl (IntsAt.new .i64 w1 3 (0, 0) [(i : Int)]) rfl (by simp [maxLen]; omega) (by omega) (Nat.le_trans HBW.out (Nat.le_trans H1.out.2.size (by simp))) ?_; intro v2 w2 ho2 hg2 ha2; obtain ⟨g2, cc2, hv2, hgb2, hgs2⟩ := own_addr ho2 (by simp); have hv3 : v2 = .slice (some ⟨g2, 0, none⟩) (s.steps.length + 1) cc2 := hv2.trans (by simp); have MID := Lib.hid (mid_of H.out hi HLEFT.out H1.out.1 H1.out.2 hv3 ho2 hg2 ha2); clear hv2 ho2 hg2 ha2; subst hv3; have c1b : w2.cell? ⟨A.r, 1, none⟩ = some A.vs := MID.out.run.cell (o := 1) (by omega); have z1b : w2.frozen? ⟨A.r, 1, none⟩ = false := MID.out.run.frozen _))
        go_end0
        refine ⟨rfl, .slice (some ⟨g2, 0, none⟩) (s.steps.length + 1) cc2, Lib.hid ?_⟩
        rw [HS.out]
        exact MID.out.on H.out.hr (by have := HBW.out; have := MID.out.only.size; omega) HLEFT.out H1M.out
end Go.Proofs.Ythnaogfcffmphaa.Sched
