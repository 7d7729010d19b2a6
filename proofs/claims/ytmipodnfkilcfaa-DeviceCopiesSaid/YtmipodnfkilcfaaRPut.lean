/-
  THE REFERENCE's DEVICE: append of stores; put.
-/
import Derived.Test.YtmipodnfkilcfaaROps
set_option linter.unusedVariables false
set_option linter.unusedSimpArgs false
namespace Go.Proofs.Ytmipodnfkilcfaa.Dev
open Go.ChangeShapes Go.WideShapes Go.ChangeAt Go.RowKit Go.Proofs.Ytmipodnfkilcfaa.Mem Go.Proofs.Ytmipodnfkilcfaa.Args Go.Proofs.Ytmipodnfkilcfaa.Own
section
variable {P : Program}
theorem run_app2 {w : World} {base bytes m c n : Nat} {t ty e : TypeId} {i : TypeInfo} {z : Value} {v : Value} {xs news : List Value} {A : Option Addr} (ht : P.underlying t = some (.slice e)) (hi : P.info? e = some i) (hz : i.zero = some z)
    (hsize : i.size = 2) (hby : i.bytes = bytes) (hzs : z.cells.size = 2) (hown : w.ownsRow base e 2 v n xs) (hl : news.length = m * 2) (hr : 0 < m → ∃ ad, A = some ad ∧ ∀ j u, news[j]? = some u → w.cell? (ad.add j) = some u) (h1 : ∀ u ∈ news, u.oneCell' = true)
    (h63 : n + m ≤ maxLen) (hbytes : (n + m) * bytes ≤ 140737488355328) (hbase : base ≤ w.heap.size) :
    ∃ v' w', (Builtin.append_ #[t, t] ty #[v, .slice A m c]).run P w = .ok v' w' ∧ w'.ownsRow base e 2 v' (n + m) (xs ++ news) ∧ w.grownBy w' v.ownBlock ∧ (v'.ownBlock = v.ownBlock ∨ v'.ownBlock = some w.heap.size) := by
  rcases A with _ | ad
  · have hm : m = 0 := by
      rcases Nat.eq_zero_or_pos m with h | h
      · exact h
      · obtain ⟨ad, h, _⟩ := hr h; cases h
    subst hm
    have h0 : news = [] := List.length_eq_zero_iff.1 (by simpa using hl)
    subst h0
    refine ⟨v, w, ?_, by simpa using hown, World.grownBy.refl w _, .inl rfl⟩
    rcases hown.2 with ⟨rfl, _⟩ | ⟨g, cap, cur, rfl, _, _, hnc, _⟩
    · simp [Builtin.append_, run_underlying ht, sizeOf, typeInfo, hi, Builtin.lenOf, Builtin.firstCells]
    · simp [Builtin.append_, run_underlying ht, sizeOf, typeInfo, hi, Builtin.lenOf, Builtin.firstCells, hnc, storeCells]
  · have hcells : ∀ j u, news[j]? = some u → w.cell? (ad.add j) = some u := by
      rcases Nat.eq_zero_or_pos m with h | h
      · subst h
        have h0 : news = [] := List.length_eq_zero_iff.1 (by simpa using hl)
        subst h0
        intro j u hu; simp at hu
      · obtain ⟨ad', e1, e2⟩ := hr h
        cases e1; exact e2
    obtain ⟨v', w', hrun, h2, h3, _, h5⟩ := run_append_own_at (P := P) w base t ty e i z 2 bytes ht hi hz hsize hby hzs (by omega) v n xs hown ad m c news hl hcells h1 h63 hbytes hbase
    exact ⟨v', w', hrun, h2, h3, h5⟩
theorem wpList_app2 {ops : Array Oper} {rest : List Oper} {o : Oper} {a : Act} {Q : Exit → Act → World → Prop} {w : World} (hgd : Region.wanted o (yielded ops a.tmps) = true) (s x : Operand) (t : TypeId)
    (ho : o.op = .call { callee := .builtin .append, args := #[s, x], argTypes := #[t, t] })
    {base bytes m c n : Nat} {e : TypeId} {i : TypeInfo} {z : Value} {v : Value} {xs news : List Value} {A : Option Addr} (ht : P.underlying t = some (.slice e)) (hi : P.info? e = some i) (hz : i.zero = some z)
    (hsize : i.size = 2) (hby : i.bytes = bytes) (hzs : z.cells.size = 2) (hs : a.eval s = v) (hown : w.ownsRow base e 2 v n xs) (hx : a.eval x = .slice A m c) (hl : news.length = m * 2) (hr : 0 < m → ∃ ad, A = some ad ∧ ∀ j u, news[j]? = some u → w.cell? (ad.add j) = some u) (h1 : ∀ u ∈ news, u.oneCell' = true)
    (h63 : n + m ≤ maxLen) (hbytes : (n + m) * bytes ≤ 140737488355328) (hbase : base ≤ w.heap.size)
    (h : ∀ v' w', w'.ownsRow base e 2 v' (n + m) (xs ++ news) → w.grownBy w' v.ownBlock → (v'.ownBlock = v.ownBlock ∨ v'.ownBlock = some w.heap.size) → wpList P ops Q rest (a.put o.dst v') w') : wpList P ops Q (o :: rest) a w := by
  refine wpList_step fun K hK => ?_
  rw [if_pos hgd]
  obtain ⟨v', w', hrun, h2, h3, h4⟩ := run_app2 (P := P) (w := w) (base := base) (ty := o.type) (c := c) ht hi hz hsize hby hzs hown hl hr h1 h63 hbytes hbase
  unfold Oper.wp execOp
  simp only [ho, resolve, invoke, builtin, Sem.run_bind, Sem.run_pure, Result.andThen_ok, List.map_toArray, List.map_cons, List.map_nil, hs, hx, hrun]
  exact hK _ _ (h v' w' h2 h3 h4)
end
theorem infoRWrite : (Try.prog.info? 105).map (fun i => (i.zero, i.size, i.bytes)) = some (some (.agg #[.int .u64 0, .int .u64 0]), 2, 16) := by kernel_rfl
theorem addr0 (g j : Nat) : (⟨g, 0, none⟩ : Addr).add j = ⟨g, j, none⟩ := by unfold Addr.add; split <;> simp_all
/-- What a row's cells are for the append laws. -/
theorem src_of {w w' : World} {g n : Nat} {xs : List Value} (hl : xs.length = n * 2) (hc : ∀ o, o < n * 2 → w.cell? ⟨g, o, none⟩ = xs[o]?) (hb : w'.heap[g]? = w.heap[g]?) : ∀ j u, xs[j]? = some u → w'.cell? ((⟨g, 0, none⟩ : Addr).add j) = some u := fun j u hu => by
  have hj : j < n * 2 := by rw [← hl]; exact (List.getElem?_eq_some_iff.1 hu).1
  rw [addr0, World.cell?_of_block (w := w) hb, hc j hj, hu]
/-- One line's history was written anew. -/
theorem IsRef.histSet {w w' : World} {base : Nat} {A : RAdr} {S S' : St} (h : IsRef w base A S) {l : Nat} (hl : l < S.n) (hn : S'.n = S.n) (hnt : S'.notes = S.notes) (her : S'.err = S.err) (hex : S'.ex = S.ex) (hof : S'.off = S.off) (hle : S'.left = S.left)
    (hot : ∀ i, i ≠ l → S'.pers i = S.pers i ∧ S'.hist i = S.hist i ∧ S'.gone i = S.gone i) (hv' : Value) (g' : Nat → Value) (hB : Blk w' A.lb 73 (S.n * 10) g') (hg : ∀ o, (o < l * 10 ∨ l * 10 + 10 ≤ o) → g' o = rlinesG A S o)
    (h1 : ∀ j, j < 8 → g' (l * 10 + j) = wordG (S'.pers l) j) (h3 : g' (l * 10 + 8) = hv') (h4 : g' (l * 10 + 9) = .int .i64 (S'.gone l : Int)) (hh : Row2 w' base 105 hv' (S'.hist l).length (hcells (S'.hist l)))
    (ho : Only (fun b => b = A.lb) w w') (hfr : ∀ b, hv'.ownBlock = some b → w.heap.size ≤ b) : RStep w w' base A S' := by
  refine ⟨{ A with hv := fun i => if i = l then hv' else A.hv i }, rfl, rfl, ⟨?_, ?_, fun i hi => ?_, fun t ht => ?_, h.dl, h.bd, h.bl⟩, ho.mono fun b hb => .inr hb⟩
  · refine (ho.blk h.dev h.dl).ext fun o _ => ?_
    unfold refG
    simp only [hn, her, hex, hof, hle]
  · rw [hn]
    refine hB.ext fun o ho' => ?_
    by_cases e : o / 10 = l
    · have e2 : o = l * 10 + o % 10 := by omega
      unfold rlinesG
      simp only
      by_cases k1 : o % 10 < 8
      · rw [if_pos k1, e, e2, h1 _ k1, show (l * 10 + o % 10) % 10 = o % 10 by omega]
      · by_cases k2 : o % 10 = 8
        · rw [if_neg k1, if_pos k2, e, if_pos rfl, show g' o = g' (l * 10 + 8) by congr 1; omega, h3]
        · rw [if_neg k1, if_neg k2, e, show g' o = g' (l * 10 + 9) by congr 1; omega, h4]
    · rw [hg o (by omega)]
      obtain ⟨a1, a2, a3⟩ := hot _ e
      unfold rlinesG
      simp only
      rw [a1, a3, if_neg e]
  · rw [hn] at hi
    by_cases e : i = l
    · subst e
      simp only [if_true]
      have f1 := h.dev.lt
      have f2 := h.lines.lt
      exact ⟨hh, fun e => by have := hfr _ e; omega, fun e => by have := hfr _ e; omega⟩
    · simp only [if_neg e]
      rw [(hot i e).2.1]
      exact ⟨(h.hist i hi).1.only ho (fun g hg e => (h.hist i hi).2.2 (by rw [hg, e])), (h.hist i hi).2⟩
  · rw [hnt]
    exact ⟨(h.notes t ht).1.only ho (fun g hg e => (h.notes t ht).2.2 (by rw [hg, e])), (h.notes t ht).2⟩
set_option maxRecDepth 100000 in
set_option maxHeartbeats 400000 in
theorem rput_any (w : World) (base M : Nat) (A : RAdr) (S : St) (o x : Nat) (h : IsRef w base A S) (hS : S.Ok M) (hM : M ≤ 1000000) (hw : S.isW o = true) (ho : o < 18446744073709551616) :
    Calls Try.prog 63 #[.pointer (some ⟨A.d, 0, none⟩), .int .u64 (o : Int), .int .u64 (x : Int)] w fun e w' => e = .returned (.tuple #[]) ∧ Hid (RStep w w' base A (S.put o x)) := by
  obtain ⟨i0, hi, hz0, hz1, hz2⟩ := info_parts infoRWrite
  have HI := Lib.hid hi
  have HZ0 := Lib.hid hz0
  have HZ1 := Lib.hid hz1
  have HZ2 := Lib.hid hz2
  clear hi hz0 hz1 hz2
  obtain ⟨hk, h8⟩ := St.isW_lt hw
  have c0 := RB.c0 h.dev
  obtain ⟨k, hkk⟩ : ∃ k, o / 64 = k := ⟨_, rfl⟩
  rw [hkk] at hk
  obtain ⟨C, c, hCv, h1, h2, hp, hh, hg, hr⟩ := h.line hk
  have hlt := h.lines.lt
  have hsum := hS.sum k
  have hd : (o : Int) / 64 = (k : Int) := by omega
  have hn := hS.n1
  have hkn : (k : Int) < (S.n : Int) := by omega
  have HD := Lib.hid h
  have HR := Lib.hid hr
  have HK := Lib.hid hkk
  obtain ⟨m, hm⟩ : ∃ m, (S.hist k).length = m := ⟨_, rfl⟩
  rw [hm] at h1 hh HR hsum
  have HM := Lib.hid hm
  have hbw := Nat.le_trans h.bl (Nat.le_of_lt hlt)
  have z8 := h.lines.frozen (k * 10 + 8)
  clear h hS hp hr hkk hm hCv hg
  go_enter Try.func63, Try.ntmps63
  go_wp2_with (first
    | (at_builtin; refine wpList_app2 (by simp [Region.wanted, yielded]) (.tmp 15) (.tmp 19) 71 rfl (base := w.heap.size) (n := 0) (xs := []) (v := .slice (some ⟨w.heap.size, 0, none⟩) 0 0) (A := C) (m := m) (c := c) (news := hcells (S.hist k)) Try.underlying71 HI.out HZ0.out HZ1.out HZ2.out rfl rfl (World.ownsRow_made w #[] 0 (Nat.le_refl _) (by simp [maxLen]) rfl) rfl (by rw [hcells_len, HM.out]) (fun h0 => ⟨⟨(HR.out h0).choose, 0, none⟩, (HR.out h0).choose_spec.1, src_of (by rw [hcells_len, HM.out]) (HR.out h0).choose_spec.2.2 (Below.heap_alloc _ _ _ (HR.out h0).choose_spec.2.1)⟩) (hcells_one _) (by simp [maxLen]; omega) (by omega) (by simp) ?_; intro v1 w1 hown1 hgr1 hob1; rw [Nat.zero_add, List.nil_append] at hown1; have HO1 := Lib.hid hown1; have HG1 := Lib.hid hgr1; have HB1 := Lib.hid hob1; have hs1 : w.heap.size < w1.heap.size := (by have := hgr1.size; simp at this; omega); clear hown1 hgr1 hob1)
    | (at_builtin; refine wpList_append_lies _ rfl _ _ 71 rfl w.heap.size 105 i0 (.agg #[.int .u64 0, .int .u64 0]) 2 16 Try.underlying71 HI.out HZ0.out HZ1.out HZ2.out rfl (by decide) v1 m (hcells (S.hist k)) rfl (World.ownsRow.alloc HO1.out _) ⟨w1.heap.size, 0, none⟩ 1 1 [.int .u64 (o : Int), .int .u64 (x : Int)] rfl rfl (new_cells _ _ _ _ rfl _ rfl) (write_one o x) (by decide) (by simp [maxLen]; omega) (by omega) (by simp; omega) (w1.heap.size + 1) (by simp) ?_; intro gb cap w2 hown2 hgr2 hob2 hlt2; have O2 : Only (fun _ => False) w w2 := (((Only.refl (fun _ => False) w).alloc _).trans' (G := fun b => w.heap.size ≤ b) ((Only.ofGrown HG1.out (fun k hk => .inl (by cases hk; exact Nat.le_refl _))).alloc _) (fun b hb => .inr hb)).trans' (G := fun b => w.heap.size ≤ b) (Only.ofGrown hgr2 (fun k hk => .inl (World.ownsRow.lt HO1.out k hk).1)) (fun b hb => .inr hb); have BL := O2.blk HD.out.lines (fun f => f); have c8 := BL.cell (o := k * 10 + 8) (by omega); have z82 := BL.frozen (k * 10 + 8); have HO2 := Lib.hid hown2; have HO22 := Lib.hid O2; have HBL := Lib.hid BL; have HL2 := Lib.hid hlt2; have HOB2 := Lib.hid hob2; clear hown2 hgr2 hob2 hlt2 O2 BL))
  go_end0
  have hgb := World.ownsRow.lt HO2.out gb rfl
  have hkS : ∀ i, i ≠ k → (S.put o x).hist i = S.hist i := fun i hi => by
    show (if i = o / 64 then _ else _) = _
    rw [if_neg (by rw [HK.out]; exact hi)]
  have hkk : (S.put o x).hist k = S.hist k ++ [(o, x)] := by
    show (if k = o / 64 then _ else _) = _
    rw [if_pos HK.out.symm]
  refine ⟨rfl, Lib.hid (HD.out.histSet hk rfl rfl rfl rfl rfl rfl (fun i hi => ⟨rfl, hkS i hi, rfl⟩) (.slice (some ⟨gb, 0, none⟩) (m + 1) cap) _ (HBL.out.set (k * 10 + 8) _) (fun o' ho' => ?_) (fun j hj => ?_) ?_ ?_ ?_ ?_ (fun b hb => ?_))⟩
  · rw [upd_other _ _ (by omega)]
  · rw [upd_other _ _ (by omega), rl_pers _ _ _ _ hj]; rfl
  · rw [upd_same]
  · rw [upd_other _ _ (by omega), rl_gone]; rfl
  · rw [hkk, hcells_append, List.length_append, HM.out]
    refine Row2.of_block (w := w2) (Row2.mono ?_ hbw) (fun g hg => ?_)
    · exact HO2.out
    · rw [heap_setCell_other]
      cases hg
      show gb ≠ A.lb
      omega
  · exact (HO22.out.mono (fun _ f => f.elim)).set _ _ (.inl rfl)
  · cases hb; exact hgb.1
end Go.Proofs.Ytmipodnfkilcfaa.Dev
