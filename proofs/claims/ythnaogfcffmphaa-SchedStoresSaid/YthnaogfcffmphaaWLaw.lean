/-
  SCHED: the law's writers, ready; Run of them.
-/
import Derived.Test.YthnaogfcffmphaaWRuns
set_option linter.unusedVariables false
set_option linter.unusedSimpArgs false
namespace Go.Proofs.Ythnaogfcffmphaa.Sched
open Go.ChangeShapes Go.WideShapes Go.ChangeAt Go.RowKit Go.Proofs.Ythnaogfcffmphaa.Mem Go.Proofs.Ythnaogfcffmphaa.Law Go.Proofs.Ythnaogfcffmphaa.Args Go.Proofs.Ythnaogfcffmphaa.Own Go.Proofs.Ythnaogfcffmphaa.Dev
theorem X.steps_in (n : Nat) (hn : 0 < n) : ∀ (ps : List Int) (s : X), s.n = n → (∀ x ∈ s.steps, 0 ≤ x ∧ x < (n : Int)) → ∀ x ∈ (s.run ps).steps, 0 ≤ x ∧ x < (n : Int)
  | [], s, _, h => h
  | p :: ps, s, e, h => by
    unfold X.run
    rw [List.foldl_cons]
    refine X.steps_in n hn ps (s.pick p) (by rw [X.pick_n]; exact e) ?_
    unfold X.pick
    split
    · unfold X.step
      split
      · exact h
      · split
        · exact h
        · intro x hx
          unfold X.go at hx
          simp only [List.mem_append, List.mem_singleton] at hx
          rcases hx with hx | hx
          · exact h x hx
          · have : p.toNat % s.n < n := by rw [e]; exact Nat.mod_lt _ hn
            omega
    · exact h
theorem Wr.kept' {F : Nat → Prop} {w w' : World} {base : Nat} {Z : WD} {B : Nat → Nat} {s : X} (h : Wr w base Z B s) (hw : Z.Bv ≤ w.heap.size) (ho : Only F w w') (hF : ∀ b, F b → wTag w b → False) (hB : ∀ b, F b → Z.Bv ≤ b) : Wr w' base Z B s := by
  refine ⟨h.n, fun i hi => ?_, h.inj, ?_, fun i hi => (h.ints i hi).below (ho.below hw hB)⟩
  · obtain ⟨m, h1, h2, h3, h4⟩ := h.objs i hi
    exact ⟨m, h1, h2, h3, ho.blk h4 (fun f => hF _ f (.inl (blk_tag h4)))⟩
  · obtain ⟨Ad, S, h1, h2, h3, h4⟩ := h.dev
    exact ⟨Ad, S, h1, h2.only ho (fun b hb f => hF b f (.inr (devFoot h2 hb))), h3, h4⟩
structure Ready (W ws : World) (Z : WD) (B : Nat → Nat) : Prop where
  wr : ∀ base, Wr ws base Z B (X.init 2 fun i => some (Z.n i))
  ok : ∀ base, W.heap.size ≤ base → WOk Z base B
  bv : Z.Bv = W.heap.size
  bel : Below W.heap.size W ws
  fd : ∀ b, Z.FD b → W.heap.size ≤ b ∧ b < ws.heap.size
  bw : ∀ i, i < 2 → W.heap.size ≤ B i
  nn : ∀ i, Z.n i ≤ 30
theorem ready {W wa wb : World} {A : Adr} {A0 A1 : Option Addr} {n0 c0 n1 c1 : Nat} {z0 z1 : List Int} (l0 : z0.length = n0) (l1 : z1.length = n1) (h0 : n0 ≤ 30) (h1 : n1 ≤ 30) (r0 : IntsAt .u64 W W.heap.size A0 z0) (r1 : IntsAt .u64 W W.heap.size A1 z1) (w0 : ∀ z ∈ z0, (Lit.int .u64 z).wf = true) (w1 : ∀ z ∈ z1, (Lit.int .u64 z).wf = true)
    (ha : Below W.heap.size W wa) (hd : IsDev wb wa.heap.size A (St.new 2)) (hb : Below wa.heap.size wa wb) (ws : World)
    (hws : ws = (wb.alloc (.cells #[.pointer (some ⟨A.d, 1, none⟩), .int .u64 64, .slice A0 n0 c0, .int .i64 0] 66)).alloc (.cells #[.pointer (some ⟨A.d, 5, none⟩), .int .u64 64, .slice A1 n1 c1, .int .i64 0] 66)) :
    Ready W ws ⟨A.d, fun i => if i = 0 then n0 else n1, fun i => if i = 0 then A0 else A1, fun i => if i = 0 then c0 else c1, fun i => if i = 0 then z0 else z1, W.heap.size, wa.heap.size, fun b => A.foot 2 b⟩ (fun i => wb.heap.size + i) := by
  have hab : Below W.heap.size W wb := ha.trans (hb.mono ha.size)
  have hbs : Below wb.heap.size wb ws := by rw [hws]; exact ((Below.refl _ _).alloc (Nat.le_refl _) _).alloc (by simp) _
  have hWs : Below W.heap.size W ws := hab.trans (hbs.mono hab.size)
  have b0 : Blk ws wb.heap.size 66 4 (fun o => if o = 0 then .pointer (some ⟨A.d, 1, none⟩) else if o = 1 then .int .u64 64 else if o = 2 then .slice A0 n0 c0 else .int .i64 0) := by
    rw [hws]
    refine (Blk.newOf wb _ _ (n := 4) rfl fun o ho => ?_).alloc _
    rcases o with _ | _ | _ | _ | o
    · rfl
    · rfl
    · rfl
    · rfl
    · omega
  have b1 : Blk ws (wb.heap.size + 1) 66 4 (fun o => if o = 0 then .pointer (some ⟨A.d, 5, none⟩) else if o = 1 then .int .u64 64 else if o = 2 then .slice A1 n1 c1 else .int .i64 0) := by
    rw [hws]
    have := Blk.newOf (wb.alloc (.cells #[.pointer (some ⟨A.d, 1, none⟩), .int .u64 64, .slice A0 n0 c0, .int .i64 0] 66)) #[.pointer (some ⟨A.d, 5, none⟩), .int .u64 64, .slice A1 n1 c1, .int .i64 0] 66 (n := 4) (g := fun o => if o = 0 then .pointer (some ⟨A.d, 5, none⟩) else if o = 1 then .int .u64 64 else if o = 2 then .slice A1 n1 c1 else .int .i64 0) rfl fun o ho => by
      rcases o with _ | _ | _ | _ | o
      · rfl
      · rfl
      · rfl
      · rfl
      · omega
    simpa using this
  have hz : ∀ {z : List Int}, (∀ x ∈ z, (Lit.int .u64 x).wf = true) → ∀ x ∈ z, 0 ≤ x ∧ x < 18446744073709551616 := fun h x hx => by have := wf_u64 (h x hx); omega
  have hfW : ∀ b, A.foot 2 b → W.heap.size ≤ b ∧ b < ws.heap.size := fun b f => ⟨Nat.le_trans ha.size (hd.baseLe b f), Nat.lt_of_lt_of_le (hd.ownLt b f) hbs.size⟩
  refine ⟨fun base => ⟨rfl, fun i hi => ?_, by simp, ⟨A, St.new 2, rfl, hd.below hbs (Nat.le_refl _), DevAt.new, fun b f => .inl f⟩, fun i hi => ?_⟩, fun base hbase => ⟨fun i hi => ?_, fun i hi => ?_, fun i hi => ?_, hbase, fun i hi => Nat.le_trans hab.size (by simp), fun b f => (hfW b f).1⟩, rfl, hWs, hfW, fun i hi => Nat.le_trans hab.size (by simp), fun i => by simp only; split <;> assumption⟩
  · rcases i with _ | _ | i
    · refine ⟨n0, rfl, Nat.le_refl _, by simp [X.init, Wp.play], b0.ext fun o ho => ?_⟩
      simp [wrG]
    · refine ⟨n1, rfl, Nat.le_refl _, by simp [X.init, Wp.play], b1.ext fun o ho => ?_⟩
      simp [wrG]
    · omega
  · rcases i with _ | _ | i
    · exact r0.below hWs
    · exact r1.below hWs
    · omega
  · rcases i with _ | _ | i
    · exact l0
    · exact l1
    · omega
  · rcases i with _ | _ | i
    · exact h0
    · exact h1
    · omega
  · rcases i with _ | _ | i
    · exact hz w0
    · exact hz w1
    · omega
/-- After Run. -/
structure Ran (ws w2 : World) (Z : WD) (B : Nat → Nat) (st : List Int) (As : Option Addr) (ls cs : Nat) : Prop where
  len : st.length = ls
  few : ls ≤ 100
  two : ∀ x ∈ st, 0 ≤ x ∧ x < 2
  own : ∃ b, OwnInts .i64 3 w2 b (.slice As ls cs) st
  wr : ∃ s base, s.steps = st ∧ base ≤ w2.heap.size ∧ Wr w2 base Z B s
  only : Only (WF Z ws.heap.size B) ws w2
theorem ready_run {W ws : World} {Z : WD} {B : Nat → Nat} (h : Ready W ws Z B) (w : World) (g : Nat) (hb : Below ws.heap.size ws w) (hg : Blk w g 83 2 (machW B)) (A2 : Option Addr) (n2 c2 : Nat) (z2 : List Int) (l2 : z2.length = n2) (h2 : n2 ≤ 100) (r2 : IntsAt .i64 W W.heap.size A2 z2) (w2 : ∀ z ∈ z2, (Lit.int .i64 z).wf = true) :
    Calls Try.prog 13 #[.slice (some ⟨g, 0, none⟩) 2 2, .slice A2 n2 c2] w fun e w' => ∃ As ls cs Ae le ce st, e = .returned (.agg #[.slice As ls cs, .slice Ae le ce]) ∧ Hid (Ran ws w' Z B st As ls cs ∧ Only (WF Z w.heap.size B) w w') := by
  have hbs := hb.size
  have hWs := h.bel.size
  have hok := h.ok (w.heap.size + 1) (by omega)
  have hWw : Below W.heap.size W w := h.bel.trans (hb.mono hWs)
  refine (wrun_any w ⟨0, B, some ⟨g, 0, none⟩, 2, .nilIface, .nilIface⟩ Z 2 (fun i => some (Z.n i)) A2 n2 c2 W.heap.size z2 rfl (by omega) l2 (fun i m e => ?_) ⟨g, rfl, hg⟩ ((h.wr _).calm (by rw [h.bv]; exact hWs) hb) hok (by rw [h.bv]; omega) (fun b f => Nat.lt_of_lt_of_le (h.fd b f).2 hbs) (Lib.hid fun w' ho => r2.below (hWw.trans (ho.below hWw.size fun b f => ?_))) (Lib.hid w2)).mono ?_
  · injection e with e
    have := h.nn i
    omega
  · rcases f with f | f | f | f
    · exact Nat.le_trans hWw.size f
    · rw [f]; exact h.bw 0 (by omega)
    · rw [f]; exact h.bw 1 (by omega)
    · exact (h.fd b f).1
  · rintro e w' ⟨vs, ve, rfl, H⟩
    obtain ⟨q1, q2, q3, q4, q5⟩ := H.out
    obtain ⟨As, cs, es, _, _, _, is1⟩ := q1.form
    obtain ⟨Ae, ce, ee, _⟩ := q2.form
    have okr := (X.Ok.init (n := 2) (left := fun i => some (Z.n i)) (fun i m e => ?_)).run z2
    · refine ⟨As, _, cs, Ae, _, ce, _, by rw [es, ee], Lib.hid ⟨⟨rfl, by have := okr.steps; omega, X.steps_in 2 (by omega) z2 _ rfl (by intro x hx; simp [X.init] at hx), ⟨_, by rw [es] at q1; exact q1⟩, ⟨_, _, rfl, ?_, q4⟩, (Only.ofBelow hb _).trans' q5 (fun b f => ?_)⟩, q5⟩⟩
      · have hel : ((X.init 2 fun i => some (Z.n i)).run z2).ended.length = 2 := okr.len.trans (X.run_n _ _)
        obtain ⟨g2, c3, _, hg1, hg2⟩ := own_addr q2 (by omega)
        omega
      · rcases f with f | f
        · exact .inr (Nat.le_trans hbs f)
        · exact .inl (.inr f)
    · injection e with e
      have := h.nn i
      omega
theorem machNew (w : World) (s G : Nat) (hG : w.heap.size = G) : Blk (w.alloc (.cells #[.iface 64 (.pointer (some ⟨s, 0, none⟩)), .iface 64 (.pointer (some ⟨s + 1, 0, none⟩))] 83)) G 83 2 (machW fun i => s + i) := by
  subst hG
  refine Blk.newOf w _ _ (n := 2) rfl fun o ho => ?_
  rcases o with _ | _ | o
  · rfl
  · rfl
  · omega
theorem logNew (w : World) (G : Nat) (hG : w.heap.size = G) : Blk (w.alloc (.cells #[.slice none 0 0, .slice none 0 0] 27)) G 27 2 (fun _ => .slice none 0 0) := by
  subst hG
  refine Blk.newOf w _ _ (n := 2) rfl fun o ho => ?_
  rcases o with _ | _ | o
  · rfl
  · rfl
  · omega
theorem Ready.notWF {W ws : World} {Z : WD} {B : Nat → Nat} (h : Ready W ws Z B) {b n : Nat} (h1 : ws.heap.size ≤ b) (h2 : b < n) : ¬ WF Z n B b := fun f => by
  obtain ⟨m0, _, _, _, b0⟩ := (h.wr 0).objs 0 (by omega)
  obtain ⟨m1, _, _, _, b1⟩ := (h.wr 0).objs 1 (by omega)
  have := b0.lt
  have := b1.lt
  rcases f with f | f | f | f
  · omega
  · omega
  · omega
  · have := (h.fd b f).2
    omega
/-- What the law's loop begins with. -/
structure After (W wx : World) (Z : WD) (B : Nat → Nat) (st : List Int) (As : Option Addr) (ls cs : Nat) (v : Value) (lb sb : Nat) : Prop where
  len : st.length = ls
  few : ls ≤ 100
  two : ∀ x ∈ st, 0 ≤ x ∧ x < 2
  own : ∃ b, OwnInts .i64 3 wx b (.slice As ls cs) st
  wr : ∃ s base, s.steps = st ∧ base ≤ wx.heap.size ∧ Wr wx base Z B s
  ptr : Blk wx sb 64 2 (fun o => .pointer (some ⟨B o, 0, none⟩))
  log : Blk wx lb 27 2 (fun o => if o = 0 then .slice As ls cs else v)
  bel : Below W.heap.size W wx
theorem Ready.ranBel {W ws w2 : World} {Z : WD} {B : Nat → Nat} (h : Ready W ws Z B) (ho : Only (WF Z ws.heap.size B) ws w2) : Below W.heap.size W w2 := by
  refine h.bel.trans (ho.below h.bel.size fun b f => ?_)
  rcases f with f | f | f | f
  · exact Nat.le_trans h.bel.size f
  · rw [f]; exact h.bw 0 (by omega)
  · rw [f]; exact h.bw 1 (by omega)
  · exact (h.fd b f).1
theorem after_fresh {W ws w2 : World} {Z : WD} {B : Nat → Nat} {st : List Int} {As : Option Addr} {ls cs sb : Nat} {v : Value} (h : Ready W ws Z B) (hr : Ran ws w2 Z B st As ls cs) (hp : Blk w2 sb 64 2 (fun o => .pointer (some ⟨B o, 0, none⟩))) :
    After W (w2.alloc (.cells #[.slice As ls cs, v] 27)) Z B st As ls cs v w2.heap.size sb := by
  have hb : Below w2.heap.size w2 (w2.alloc (.cells #[.slice As ls cs, v] 27)) := (Below.refl _ _).alloc (Nat.le_refl _) _
  have hB := h.ranBel hr.only
  refine ⟨hr.len, hr.few, hr.two, ?_, ?_, hp.alloc _, Blk.newOf w2 _ _ (n := 2) rfl fun o ho => ?_, hB.trans (hb.mono hB.size)⟩
  · obtain ⟨b, ho⟩ := hr.own
    exact ⟨b, ho.below hb⟩
  · obtain ⟨s, base, e1, e2, e3⟩ := hr.wr
    exact ⟨s, base, e1, Nat.le_trans e2 hb.size, e3.calm (by rw [h.bv]; exact hB.size) hb⟩
  · rcases o with _ | _ | o
    · rfl
    · rfl
    · omega
theorem after_set {W ws w2 : World} {Z : WD} {B : Nat → Nat} {st : List Int} {As : Option Addr} {ls cs sb lb : Nat} {v : Value} (h : Ready W ws Z B) (hr : Ran ws w2 Z B st As ls cs) (hp : Blk w2 sb 64 2 (fun o => .pointer (some ⟨B o, 0, none⟩))) (hl : Blk w2 lb 27 2 (fun _ => .slice none 0 0)) (hlb : W.heap.size ≤ lb) :
    After W ((w2.setCell ⟨lb, 0, none⟩ (.slice As ls cs)).setCell ⟨lb, 1, none⟩ v) Z B st As ls cs v lb sb := by
  have hO : Only (· = lb) w2 ((w2.setCell ⟨lb, 0, none⟩ (.slice As ls cs)).setCell ⟨lb, 1, none⟩ v) := ((Only.refl (· = lb) w2).set ⟨lb, 0, none⟩ _ (.inl rfl)).set ⟨lb, 1, none⟩ v (.inl rfl)
  have hB := h.ranBel hr.only
  refine ⟨hr.len, hr.few, hr.two, ?_, ?_, hO.blk hp ((blk_tag hp).ne (blk_tag hl) (by decide)), ((hl.set 0 _).set 1 v).ext fun o ho => ?_, hB.trans (hO.below hB.size fun b e => by subst e; exact hlb)⟩
  · obtain ⟨b, ho⟩ := hr.own
    exact ⟨b, own_only ho hO (fun g hg e => (own_tag ho hg).ne (blk_tag hl) (by decide) e)⟩
  · obtain ⟨s, base, e1, e2, e3⟩ := hr.wr
    exact ⟨s, base, e1, Nat.le_trans e2 hO.size, e3.kept' (by rw [h.bv]; exact hB.size) hO (fun b e t => by subst e; exact t.ne (blk_tag hl) (by decide) nd_log rfl) (fun b e => by subst e; rw [h.bv]; exact hlb)⟩
  · rcases o with _ | _ | o
    · rw [upd_other _ _ (by omega), upd_same]; rfl
    · rw [upd_same]; rfl
    · omega
theorem After.later {W wx wr : World} {Z : WD} {B : Nat → Nat} {st : List Int} {As : Option Addr} {ls cs lb sb : Nat} {v : Value} (h : After W wx Z B st As ls cs v lb sb) (hb : Below wx.heap.size wx wr) (hz : Z.Bv ≤ W.heap.size) : After W wr Z B st As ls cs v lb sb := by
  refine ⟨h.len, h.few, h.two, ?_, ?_, h.ptr.below hb h.ptr.lt, h.log.below hb h.log.lt, h.bel.trans (hb.mono h.bel.size)⟩
  · obtain ⟨b, ho⟩ := h.own
    exact ⟨b, ho.below hb⟩
  · obtain ⟨s, base, e1, e2, e3⟩ := h.wr
    exact ⟨s, base, e1, Nat.le_trans e2 hb.size, e3.calm (Nat.le_trans hz h.bel.size) hb⟩
def atG (Z : WD) (l : List Int) : Nat → Value := fun o => .int .i64 ((Wp.play Z l).ats o : Int)
/-- k steps of the log are counted. -/
structure Counted (W wx wr : World) (Z : WD) (st : List Int) (k : Nat) : Prop where
  at_ : Blk wr wx.heap.size 3 2 (atG Z (st.take k))
  bel : Below wx.heap.size wx wr
theorem Counted.drewN {W wx wr : World} {Z : WD} {st : List Int} {k : Nat} (h : Counted W wx wr Z st k) (n : Nat) : Counted W wx (wr.drewN n) Z st k := ⟨h.at_.drewN n, below_drewN h.bel n⟩
theorem play_take {Z : WD} {st : List Int} {k : Nat} (h : k < st.length) : Wp.play Z (st.take (k + 1)) = Wp.one Z (Wp.play Z (st.take k)) (st.getD k 0) := by
  rw [List.take_succ_eq_append_getElem h, Wp.play_snoc]
  simp [List.getD, h]
theorem Counted.idle {W wx wr : World} {Z : WD} {st : List Int} {k i : Nat} (h : Counted W wx wr Z st k) (hk : k < st.length) (hx : st.getD k 0 = (i : Int)) (hi : ¬ (Wp.play Z (st.take k)).ats i < Z.n i) : Wp.play Z (st.take (k + 1)) = Wp.play Z (st.take k) ∧ Counted W wx wr Z st (k + 1) := by
  have e : Wp.play Z (st.take (k + 1)) = Wp.play Z (st.take k) := by
    rw [play_take hk, hx]
    unfold Wp.one
    rw [if_neg (by simpa using hi)]
  exact ⟨e, ⟨by unfold atG; rw [e]; exact h.at_, h.bel⟩⟩
theorem Counted.more {W wx wr : World} {Z : WD} {st : List Int} {k i a : Nat} (h : Counted W wx wr Z st k) (hk : k < st.length) (hx : st.getD k 0 = (i : Int)) (ha : (Wp.play Z (st.take k)).ats i = a) (hi : a < Z.n i) :
    (Wp.play Z (st.take (k + 1))).vals = (Wp.play Z (st.take k)).vals ++ [((Z.z i).getD a 0).toNat] ∧ Counted W wx (wr.setCell ⟨wx.heap.size, i, none⟩ (.int .i64 ((a : Int) + 1))) Z st (k + 1) := by
  have e : Wp.play Z (st.take (k + 1)) = ⟨fun j => if j = i then (Wp.play Z (st.take k)).ats j + 1 else (Wp.play Z (st.take k)).ats j, (Wp.play Z (st.take k)).vals ++ [((Z.z i).getD a 0).toNat]⟩ := by
    rw [play_take hk, hx]
    unfold Wp.one
    simp only [Int.toNat_natCast]
    rw [ha, if_pos hi]
  refine ⟨by rw [e], ⟨(h.at_.set i _).ext fun o ho => ?_, h.bel.setCell (p := ⟨wx.heap.size, i, none⟩) (Nat.le_refl _) _⟩⟩
  unfold atG
  rw [e]
  by_cases e2 : o = i
  · subst e2
    rw [upd_same]
    simp [ha]
  · rw [upd_other _ _ e2]
    simp [e2]
theorem loop_cells {W wx wr : World} {Z : WD} {B : Nat → Nat} {st : List Int} {As : Option Addr} {ls cs lb sb k : Nat} {v : Value} (h : After W wx Z B st As ls cs v lb sb) (hz : Z.Bv ≤ W.heap.size) (hc : Counted W wx wr Z st k) (i : Nat) (hi : i < 2) :
    wr.cell? ⟨wx.heap.size, i, none⟩ = some (.int .i64 ((Wp.play Z (st.take k)).ats i : Int)) ∧ wr.frozen? ⟨wx.heap.size, i, none⟩ = false ∧ wr.cell? ⟨sb, i, none⟩ = some (.pointer (some ⟨B i, 0, none⟩)) ∧ wr.cell? ⟨B i, 2, none⟩ = some (.slice (Z.E i) (Z.n i) (Z.c i)) ∧ IntsAt .u64 wr Z.Bv (Z.E i) (Z.z i) := by
  have h2 := h.later hc.bel hz
  obtain ⟨s, base, e1, e2, e3⟩ := h2.wr
  obtain ⟨m, _, _, _, b⟩ := e3.objs i hi
  exact ⟨hc.at_.cell hi, hc.at_.frozen _, h2.ptr.cell hi, b.cell (o := 2) (by omega), e3.ints i hi⟩
theorem counted_zero (W wx : World) (Z : WD) (st : List Int) : Counted W wx (wx.alloc (.cells #[.int .i64 0, .int .i64 0] 3)) Z st 0 := by
  refine ⟨Blk.newOf wx _ _ (n := 2) rfl fun o ho => ?_, (Below.refl _ _).alloc (Nat.le_refl _) _⟩
  rcases o with _ | _ | o
  · rfl
  · rfl
  · omega
theorem After.ints {W wx wr : World} {Z : WD} {B : Nat → Nat} {st : List Int} {As : Option Addr} {ls cs lb sb : Nat} {v : Value} (h : After W wx Z B st As ls cs v lb sb) (hb : Below wx.heap.size wx wr) : IntsAt .i64 wr wx.heap.size As st := by
  obtain ⟨b, ho⟩ := h.own
  obtain ⟨A, c, e, _, _, _, hi⟩ := ho.form
  injection e with e1 e2 e3
  subst e1
  exact hi.below hb
end Go.Proofs.Ythnaogfcffmphaa.Sched
